/-
 Contracts that the proof rests on.
-/
import Derived.Deep.DeepCutAuto
import Derived.Test.YtaadmpiphnfllaaGreatDoorYAaj
import Derived.Test.YtaadmpiphnfllaaGreatDoorYAao
namespace Go.Proofs.YtaadmpiphnfllaaGreatDoor
set_option maxHeartbeats 4000000
open Go.RowKit
set_option linter.unusedVariables false
theorem Bx.far3{w:World}{g:Nat}{s:Bool}{A:Option Addr}{n c:Nat}(h:Bx w g s A n c){k:Nat}(hk:g≠k)(u v t:Value):Bx (((w.setCell ⟨k,0,none⟩ u).setCell ⟨k,1,none⟩ v).setCell ⟨k,2,none⟩ t) g s A n c:=
 h.keep (by rw [Below.heap_setCell _ _ _ _ hk,Below.heap_setCell _ _ _ _ hk,Below.heap_setCell _ _ _ _ hk])
set_option maxRecDepth 100000
def VW (w:World)(v:Value)(z:Int):Prop:=∃s A n c,v= .agg #[.bool s,.slice A n c]∧Wn w s A n c z
def VD (w:World)(v:Value)(N E:Int):Prop:=∃s A n c,v= .agg #[.bool s,.slice A n c,.int .i64 E]∧Wn w s A n c N
def VN (w:World)(v:Value)(a:Nat):Prop:=∃A n c,v= .slice A n c∧Nm w A n c a
theorem VW.below{w w':World}{v:Value}{z:Int}(h:VW w v z)(hb:Below w.heap.size w w'):VW w' v z:=by
 obtain⟨s,A,n,c,rfl,h⟩:=h;exact⟨s,A,n,c,rfl,h.below hb⟩
theorem VD.below{w w':World}{v:Value}{N E:Int}(h:VD w v N E)(hb:Below w.heap.size w w'):VD w' v N E:=by
 obtain⟨s,A,n,c,rfl,h⟩:=h;exact⟨s,A,n,c,rfl,h.below hb⟩
theorem VN.below{w w':World}{v:Value}{a:Nat}(h:VN w v a)(hb:Below w.heap.size w w'):VN w' v a:=by
 obtain⟨A,n,c,rfl,h⟩:=h;exact⟨A,n,c,rfl,h.below hb⟩
theorem dmake_out{w:World}{s:Bool}{A:Option Addr}{n c:Nat}{z e:Int}(h:Wr w s A n c z)(hc:inE e=false):
  Calls Tryz.prog 221 #[.agg #[.bool s,.slice A n c],.int .i64 e] w (D1 w n 0 0):=by
 go_enter Tryz.func221,Tryz.ntmps221
 go_wp2_with fail
 have XR:Bo ((w.alloc (.cells #[.bool s,.slice A n c] 27)).alloc (.cells #[.bool false,.slice none 0 0,.int .i64 0] 128)) (w.heap.size+1) #[.bool false,.slice none 0 0,.int .i64 0] 128:=Bo.newAt _ (by simp) _ _
 have HB:=Lib.hid (bel2 w (.cells #[.bool s,.slice A n c] 27) (.cells #[.bool false,.slice none 0 0,.int .i64 0] 128));refine (dWithin hc).mono ?_;rintro ee w1 ⟨rfl,B⟩;replace XR:=XR.below B;replace HB:=Lib.hid (bt HB.out B);clear B;have r0:=XR.c0;have r1:=XR.c1;have r2:=XR.c2;have q0:=XR.frozen 0;have q1:=XR.frozen 1;have q2:=XR.frozen 2;go_wp2;exact bodyPost_ret (v:= .agg #[.bool false,.slice none 0 0,.int .i64 0]) (by simp [results,Tryz.results221,go_sem,r0,r1,r2]) rfl ⟨false,none,0,0,rfl,Wn.zero.st3 XR _ _ _ _ _ (by simp [no32]),Nat.zero_le _,st3 HB.out (by omega) _ _ _⟩
theorem dmake_zero{w:World}{s:Bool}{A:Option Addr}{n c:Nat}{e:Int}(h:Wr w s A n c 0)(hc:inE e=true):
  Calls Tryz.prog 221 #[.agg #[.bool s,.slice A n c],.int .i64 e] w (D1 w n 0 0):=by
 go_enter Tryz.func221,Tryz.ntmps221
 go_wp2_with fail
 have XR:Bo ((w.alloc (.cells #[.bool s,.slice A n c] 27)).alloc (.cells #[.bool false,.slice none 0 0,.int .i64 0] 128)) (w.heap.size+1) #[.bool false,.slice none 0 0,.int .i64 0] 128:=Bo.newAt _ (by simp) _ _
 have HB:=Lib.hid (bel2 w (.cells #[.bool s,.slice A n c] 27) (.cells #[.bool false,.slice none 0 0,.int .i64 0] 128))
 have X2:Bx ((w.alloc (.cells #[.bool s,.slice A n c] 27)).alloc (.cells #[.bool false,.slice none 0 0,.int .i64 0] 128)) w.heap.size s A n c:=(Bx.new w s A n c).below (bel1 _ _)
 refine (dWithin hc).mono ?_;rintro ee w1 ⟨rfl,B⟩;replace XR:=XR.below B;replace X2:=X2.below B;replace HB:=Lib.hid (bt HB.out B);clear B;have x0:=X2.cell0;have x1:=X2.cell1
 go_wp2_with fail
 refine (wSign (r:=0) (h.below HB.out) (cmpI_eq rfl)).mono ?_;rintro ee w2 ⟨rfl,B⟩;replace XR:=XR.below B;replace HB:=Lib.hid (bt HB.out B);clear B;have r0:=XR.c0;have r1:=XR.c1;have r2:=XR.c2;have q0:=XR.frozen 0;have q1:=XR.frozen 1;have q2:=XR.frozen 2;go_wp2;exact bodyPost_ret (v:= .agg #[.bool false,.slice none 0 0,.int .i64 0]) (by simp [results,Tryz.results221,go_sem,r0,r1,r2]) rfl ⟨false,none,0,0,rfl,Wn.zero.st3 XR _ _ _ _ _ (by simp [no32]),Nat.zero_le _,st3 HB.out (by omega) _ _ _⟩
theorem dmake_in{w:World}{s:Bool}{A:Option Addr}{n c:Nat}{z e N E:Int}(hT:Tab w)(h:Wr w s A n c z)(hn:n≤100000)(h0:z≠0)(hc:inE e=true)(HN:Hid ((mk z e).1=N))(HE:Hid ((mk z e).2=E)):
  Calls Tryz.prog 221 #[.agg #[.bool s,.slice A n c],.int .i64 e] w (D1 w n N E):=by
 have ha:z.natAbs≠0:=by omega
 have hv:v2 z.natAbs < 3200001:=by
  have e1:=v2_pow_le ha;have e2:=h.rd.bound;rw [pow32]at e2;have e3:=(Nat.pow_lt_pow_iff_right (a:=2) (by decide)).1 (Nat.lt_of_le_of_lt e1 e2)
  omega
 have hin: -4194304≤e∧e≤4194304:=by simpa [inE]using hc
 obtain⟨hi1,hi2⟩:=hin
 have hs1:(cmpI z 0==0)=false:=by
  have:=(cmpI_zero (x:=z) (y:=0))
  have h2:cmpI z 0≠0:=fun e=>h0 (this.1 e)
  simpa using h2
 obtain⟨sz,hsz⟩:∃q,cmpI z 0=q:=⟨_,rfl⟩;rw [hsz]at hs1;have hrd:=h.rd;have hsg:=h.eq;obtain⟨m,hm⟩:∃m,v2 z.natAbs=m:=⟨_,rfl⟩;have HM:=Lib.hid hm
 have hm1:m < 3200001:=by omega
 have hw:IntKind.i64.wrap (e+m)=e+m:=IntWalk.i64_in _ (by omega)
 have HW:=Lib.hid hw;clear hm hv hw
 go_enter Tryz.func221,Tryz.ntmps221
 go_wp2_with fail
 have X2:Bx ((w.alloc (.cells #[.bool s,.slice A n c] 27)).alloc (.cells #[.bool false,.slice none 0 0,.int .i64 0] 128)) w.heap.size s A n c:=(Bx.new w s A n c).below (bel1 _ _)
 have XR:Bo ((w.alloc (.cells #[.bool s,.slice A n c] 27)).alloc (.cells #[.bool false,.slice none 0 0,.int .i64 0] 128)) (w.heap.size+1) #[.bool false,.slice none 0 0,.int .i64 0] 128:=Bo.newAt _ (by simp) _ _
 have HB:=Lib.hid (bel2 w (.cells #[.bool s,.slice A n c] 27) (.cells #[.bool false,.slice none 0 0,.int .i64 0] 128));replace hT:=hT.below HB.out;replace hrd:=hrd.below HB.out;refine (dWithin hc).mono ?_;rintro ee w1 ⟨rfl,B⟩;replace X2:=X2.below B;replace XR:=XR.below B;replace hT:=hT.below B;replace hrd:=hrd.below B;replace HB:=Lib.hid (bt HB.out B);clear B;have x0:=X2.cell0
 have x1:=X2.cell1
 go_wp2_with fail
 refine (wSign (h.below HB.out) hsz).mono ?_;rintro ee w2 ⟨rfl,B⟩;clear x0 x1;replace X2:=X2.below B;replace XR:=XR.below B;replace hT:=hT.below B;replace hrd:=hrd.below B;replace HB:=Lib.hid (bt HB.out B);clear B h;have x0:=X2.cell0;have x1:=X2.cell1
 go_wp2_with fail
 refine (dTrailing hT hrd ha (congrArg _ HM.out)).mono ?_;rintro ee w3 ⟨rfl,B⟩;clear x0 x1;replace X2:=X2.below B;replace XR:=XR.below B;replace hrd:=hrd.below B;replace HB:=Lib.hid (bt HB.out B);clear B;have hw:=HW.out
 by_cases hE:inE (e+m)=true
 ·have hE2:e+m≤4194304:=by
   have: -4194304≤e+m∧e+m≤4194304:=by simpa [inE]using hE
   exact this.2
  go_wp2_with fail
  refine (dWithin hE).mono ?_;rintro ee w4 ⟨rfl,B⟩;replace X2:=X2.below B;replace XR:=XR.below B;replace hrd:=hrd.below B;replace HB:=Lib.hid (bt HB.out B);clear B
  have HNE:Hid (sg s (z.natAbs/2^m)=N∧s=decide (N < 0)):=Lib.hid (by
   obtain⟨e1,e2,e3,e4,e5⟩:=mk_in (z:=z) (e:=e) h0 hi1 (by rw [HM.out];exact hE2);rw [HN.out]at e2 e3 e4;rw [HM.out]at e2
   have hs:s=decide (z < 0):=by
    rw [←hsg,sg_lt]
    have:decide (0 < z.natAbs)=true:=decide_eq_true (by omega)
    rw [this,Bool.and_true]
   refine⟨?_,by rw [hs,decide_eq_decide];exact e3.symm⟩
   rw [←e2,hs]
   by_cases hz:z < 0
   ·have:=e3.2 hz
    simp [sg,hz];omega
   ·have:¬N < 0:=fun h=>hz (e3.1 h)
    simp [sg,hz];omega)
  have hEE:E=e+m:=by
   rw [←HE.out,(mk_in (z:=z) (e:=e) h0 hi1 (by rw [HM.out];exact hE2)).1,HM.out]
  subst hEE
  have d2:w.heap.size≠w.heap.size+1:=by omega
  have hdiv:z.natAbs/2^m=(z.natAbs/2^m):=rfl
  go_wp2
  go_region_held3 (fun w'=>w'.cell? ⟨w.heap.size,0,none⟩=some (.bool s)∧w'.cell? ⟨w.heap.size,1,none⟩=some (.slice A n c)) (first | with_reducible exact⟨X2.cell0,X2.cell1⟩ | with_reducible exact⟨X2.drew.cell0,X2.drew.cell1⟩ | with_reducible exact⟨(X2.far3 d2 _ _ _).cell0,(X2.far3 d2 _ _ _).cell1⟩)
   (first
    | (go_at_call 216;((with_reducible refine (vShrN hrd.drew (by clear hw;omega) rfl).mono ?_);rintro ee w5 ⟨A5,n5,c5,rfl,p5,k5,B5⟩;replace X2:=X2.drew.below B5;replace XR:=XR.drew.below B5;replace HB:=Lib.hid (bt HB.out.drew B5);clear B5;have r0:=XR.c0;have r1:=XR.c1;have r2:=XR.c2;have q0:=XR.frozen 0;have q1:=XR.frozen 1;have q2:=XR.frozen 2)))
  clear hw;go_wp2
  have hwn:Wn w5 s A5 n5 c5 N:=by
   refine⟨?_,HNE.out.2⟩;rw [←HNE.out.1,sg_natAbs];exact p5
  exact bodyPost_ret (v:= .agg #[.bool s,.slice A5 n5 c5,.int .i64 (e+m)]) (by simp [results,Tryz.results221,go_sem,r0,r1,r2]) rfl ⟨s,A5,n5,c5,rfl,hwn.st3 XR _ _ _ _ _ (by simp [no32]),k5,st3 HB.out (by omega) _ _ _⟩
 ·have hE2:inE (e+m)=false:=by simpa using hE
  have e3:=mk_over (z:=z) (e:=e) (by
   rw [HM.out]
   have:¬(-4194304≤e+m∧e+m≤4194304):=by simpa [inE]using hE
   omega)
  have hN0:N=0:=by rw [←HN.out,e3]
  have hE0:E=0:=by rw [←HE.out,e3]
  subst hN0;subst hE0;clear e3
  go_wp2_with fail
  refine (dWithin hE2).mono ?_;rintro ee w4 ⟨rfl,B⟩;replace XR:=XR.below B;replace HB:=Lib.hid (bt HB.out B);clear B;have r0:=XR.c0;have r1:=XR.c1;have r2:=XR.c2;have q0:=XR.frozen 0;have q1:=XR.frozen 1;have q2:=XR.frozen 2;go_wp2;exact bodyPost_ret (v:= .agg #[.bool false,.slice none 0 0,.int .i64 0]) (by simp [results,Tryz.results221,go_sem,r0,r1,r2]) rfl ⟨false,none,0,0,rfl,Wn.zero.st3 XR _ _ _ _ _ (by simp [no32]),Nat.zero_le _,st3 HB.out (by omega) _ _ _⟩
theorem dMake{w:World}{s:Bool}{A:Option Addr}{n c:Nat}{z e N E:Int}(hT:Tab w)(h:Wr w s A n c z)(hn:n≤100000)(hN:(mk z e).1=N)(hE:(mk z e).2=E):
  Calls Tryz.prog 221 #[.agg #[.bool s,.slice A n c],.int .i64 e] w (D1 w n N E):=by
 by_cases hc:inE e=true
 ·by_cases h0:z=0
  ·subst h0;rw [mk_zero]at hN hE;subst hN;subst hE;exact dmake_zero h hc
  ·exact dmake_in hT h hn h0 hc (Lib.hid hN) (Lib.hid hE)
 ·have hm:mk z e=(0,0):=by
   have:¬(-4194304≤e∧e≤4194304):=by simpa [inE]using hc
   by_cases h1:e < -4194304
   ·exact mk_low h1
   ·exact mk_high (by omega)
  rw [hm]at hN hE;subst hN;subst hE;exact dmake_out h (by simpa using hc)
theorem dMay_zero{w:World}{A:Option Addr}{c a:Nat}{s:Bool}{e:Int}(h:Rd w A 0 c a):Calls Tryz.prog 236 #[.agg #[.bool s,.slice A 0 c,.int .i64 e]] w (PB w (mayB s 0 a && (e==0))):=by
 obtain⟨μ,hμ⟩:∃t,mayB s 0 a=t:=⟨_,rfl⟩;have HM:=Lib.hid hμ;rw [hμ];clear hμ
 cases μ
 ·go_enter Tryz.func236,Tryz.ntmps236
  go_wp2_with (first
   | (go_at_call 239;((with_reducible refine (wMay (h.below (bel1 _ _)) HM.out).mono ?_);rintro ee w1 ⟨rfl,B1⟩;obtain⟨hc,hf⟩:=bcell B1)))
  go_ret
  exact⟨rfl,bt (bel1 _ _) B1⟩
 ·go_enter Tryz.func236,Tryz.ntmps236
  go_wp2_with (first
   | (go_at_call 239;((with_reducible refine (wMay (h.below (bel1 _ _)) HM.out).mono ?_);rintro ee w1 ⟨rfl,B1⟩;obtain⟨hc,hf⟩:=bcell B1)))
  go_ret
  exact⟨rfl,bt (bel1 _ _) B1⟩
theorem dMay_pos{w:World}{A:Option Addr}{n c a:Nat}{s:Bool}{e:Int}(h:Rd w A n c a)(hn:0 < n):Calls Tryz.prog 236 #[.agg #[.bool s,.slice A n c,.int .i64 e]] w (PB w (mayB s n a && ((((a%4294967296:Nat):Int)%2==1) && (decide (-4194304≤e) && decide (e≤4194304))))):=by
 obtain⟨μ,hμ⟩:∃t,mayB s n a=t:=⟨_,rfl⟩;have HM:=Lib.hid hμ;rw [hμ];have hbig:=h.big
 have hq:((n:Int)==0)=false:=by
  have:(n:Int)≠0:=by omega
  simpa using this
 obtain⟨b,xs,hs,hv⟩:=id h;have hcap:=hs.cap;have hlt:=hs.lt hn;obtain⟨o,rfl,hcell⟩:=hs.at hn;have hck:=hcell 0 hn
 have hx:xs.getD 0 0=a%4294967296:=by
  have hl:=hs.len
  match xs,hl with
  | [],hl=>exfalso;simp at hl;omega
  | y::ys,_=>
   have:=hs.lim.head
   rw [←hv,val_cons]
   simp
   omega
 rw [hx,Nat.add_zero]at hck
 have hm32:a%4294967296 < 4294967296:=Nat.mod_lt _ (by decide)
 clear hcell hμ hx hv hs
 revert hck hm32
 generalize a%4294967296=y
 intro hck hm32
 have hne:b≠w.heap.size:=by omega
 have hbl:b < (w.alloc (.cells #[.bool s,.slice (some ⟨b,o,none⟩) n c,.int .i64 e] 128)).heap.size:=by simp;omega
 have hodd:(y:Int)%2=0∨(y:Int)%2=1:=by omega
 have hand:bits BinOp.and IntKind.u32 (y:Int) 1=(y:Int)%2:=by
  have:=u32_and_nat y 1 hm32 (by decide)
  rw [Nat.and_one_is_mod]at this
  simpa using this
 cases μ
 ·go_enter Tryz.func236,Tryz.ntmps236
  go_wp2_with (first
   | (go_at_call 239;((with_reducible refine (wMay (h.below (bel1 _ _)) HM.out).mono ?_);rintro ee w1 ⟨rfl,B1⟩;obtain⟨hc,hf⟩:=bcell B1)))
  go_ret
  exact⟨rfl,bt (bel1 _ _) B1⟩
 ·rcases hodd with ho | ho
  ·have hoo:((y:Int)%2==1)=false:=by rw [ho];rfl
   rw [ho]at hand;clear ho;rw [hoo];clear hoo
   go_enter Tryz.func236,Tryz.ntmps236
   go_wp2_with (first
    | (go_at_call 239;((with_reducible refine (wMay (h.below (bel1 _ _)) HM.out).mono ?_);rintro ee w1 ⟨rfl,B1⟩;obtain⟨hc,hf⟩:=bcell B1)))
   go_ret
   exact⟨rfl,bt (bel1 _ _) B1⟩
  ·have hoo:((y:Int)%2==1)=true:=by rw [ho];rfl
   rw [ho]at hand;clear ho;rw [hoo];clear hoo;obtain⟨i,hi⟩:∃i,inE e=i:=⟨_,rfl⟩
   have hie:(decide (-4194304≤e) && decide (e≤4194304))=i:=hi
   rw [hie];clear hie
   go_enter Tryz.func236,Tryz.ntmps236
   go_wp2_with (first
    | (go_at_call 239;((with_reducible refine (wMay (h.below (bel1 _ _)) HM.out).mono ?_);rintro ee w1 ⟨rfl,B1⟩;obtain⟨hc,hf⟩:=bcell B1))
    | (go_at_call 234;((with_reducible refine (dWithin hi).mono ?_);rintro ee w2 ⟨rfl,B2⟩)))
   go_ret
   exact⟨rfl,bt (bel1 _ _) (bt B1 B2)⟩
theorem dMay{w:World}{A:Option Addr}{n c a:Nat}{s:Bool}{e:Int}{r:Bool}(h:Rd w A n c a)(hr:mayD s n a e=r):Calls Tryz.prog 236 #[.agg #[.bool s,.slice A n c,.int .i64 e]] w (PB w r):=by
 subst hr
 unfold mayD
 rcases Nat.eq_zero_or_pos n with e0 | e0
 ·subst e0
  simpa using dMay_zero (e:=e) h
 ·rw [if_neg (by omega)];exact dMay_pos h e0
theorem mayD_true{w:World}{s:Bool}{A:Option Addr}{n c:Nat}{z e:Int}(h:Wr w s A n c z)(hm:mayD s n z.natAbs e=true):Wn w s A n c z∧mk z e=(z,e):=by
 have hsg:=h.eq;obtain⟨b,xs,hs,hv⟩:=h.rd
 unfold mayD mayB at hm
 simp only [Bool.and_eq_true,decide_eq_true_eq,Bool.or_eq_true,Bool.not_eq_true']at hm;obtain⟨⟨hl,hs1⟩,he⟩:=hm
 have hx:xs=limbs z.natAbs:=by
  have h1:=limbs_prefix hs.lim;rw [hv,hl,List.take_of_length_le (by rw [hs.len];omega)]at h1;exact h1
 have hN:Nm w A n c z.natAbs:=⟨b,hx▸hs⟩
 rcases Nat.eq_zero_or_pos n with e0 | e0
 ·have hz:z.natAbs=0:=by have:=hN.pos;omega
  obtain rfl:z=0:=by omega
  rw [if_pos e0]at he
  obtain rfl:e=0:=by simpa using he
  have:s=false:=by
   rcases hs1 with h1 | h1
   ·omega
   ·exact h1
  subst this;exact⟨⟨hN,rfl⟩,mk_zero 0⟩
 ·rw [if_neg (by omega)]at he;simp only [Bool.and_eq_true,beq_iff_eq,decide_eq_true_eq]at he;obtain⟨ho,h1,h2⟩:=he
  have hz:z.natAbs≠0:=by have:=hN.pos;omega
  have hodd:z.natAbs%2=1:=by omega
  refine⟨⟨hN,?_⟩,?_⟩
  ·have:=sg_lt s z.natAbs
   rw [hsg]at this;rw [this,decide_eq_true (by omega:0 < z.natAbs),Bool.and_true]
  ·have hv2:=v2_odd hodd;obtain⟨e1,e2,e3,e4,e5⟩:=mk_in (z:=z) (e:=e) (by omega) h1 (by rw [hv2];simpa using h2);rw [hv2]at e1 e5
   apply Prod.ext
   ·simpa using e5.symm
   ·simpa using e1
theorem dTaken{w:World}{s:Bool}{A:Option Addr}{n c:Nat}{z e N E:Int}(hT:Tab w)(h:Wr w s A n c z)(hn:n≤100000)(hN:(mk z e).1=N)(hE:(mk z e).2=E):
  Calls Tryz.prog 222 #[.agg #[.bool s,.slice A n c,.int .i64 e]] w (D1 w n N E):=by
 have HN:=Lib.hid hN;have HE:=Lib.hid hE;clear hN hE;have hrd:=h.rd
 by_cases hm:mayD s n z.natAbs e=true
 ·obtain⟨hw,hmk⟩:=mayD_true h hm;have e1:=HN.out;have e2:=HE.out;rw [hmk]at e1 e2;simp only at e1 e2;subst e1;subst e2;clear hmk
  go_enter Tryz.func222,Tryz.ntmps222
  go_wp2_with fail
  obtain⟨X1,XR,B0⟩:=dbox2 w s A n c e rfl;refine (dMay (hrd.below B0) hm).mono ?_;rintro ee w1 ⟨rfl,B⟩;replace X1:=X1.below B;replace XR:=XR.below B;replace hw:=hw.below (bt B0 B);have HB:=Lib.hid (bt B0 B);clear B B0 h hrd;have x0:=X1.c0;have x1:=X1.c1;have x2:=X1.c2;have r0:=XR.c0;have r1:=XR.c1;have r2:=XR.c2;have q0:=XR.frozen 0;have q1:=XR.frozen 1
  have q2:=XR.frozen 2;go_wp2;exact bodyPost_ret (v:= .agg #[.bool s,.slice A n c,.int .i64 e]) (by simp [results,Tryz.results222,go_sem,r0,r1,r2]) rfl ⟨s,A,n,c,rfl,hw.st3 XR _ _ _ _ _ (by simp [no32]),Nat.le_refl _,st3 HB.out (by omega) _ _ _⟩
 ·go_enter Tryz.func222,Tryz.ntmps222
  go_wp2_with fail
  obtain⟨X1,XR,B0⟩:=dbox2 w s A n c e rfl;refine (dMay (hrd.below B0) (Bool.eq_false_iff.2 hm)).mono ?_;rintro ee w1 ⟨rfl,B⟩;replace X1:=X1.below B;replace XR:=XR.below B;replace h:=h.below (bt B0 B);replace hT:=hT.below (bt B0 B);have HB:=Lib.hid (bt B0 B);clear B B0 hrd;have x0:=X1.c0;have x1:=X1.c1;have x2:=X1.c2
  go_wp2_with fail
  refine (dMake hT h hn HN.out HE.out).mono ?_;rintro ee w2 ⟨s2,A2,n2,c2,rfl,h2,k2,B⟩;clear x0 x1 x2;replace XR:=XR.below B;replace HB:=Lib.hid (bt HB.out B);clear B;have r0:=XR.c0;have r1:=XR.c1;have r2:=XR.c2;have q0:=XR.frozen 0;have q1:=XR.frozen 1;have q2:=XR.frozen 2;go_wp2;exact bodyPost_ret (v:= .agg #[.bool s2,.slice A2 n2 c2,.int .i64 E]) (by simp [results,Tryz.results222,go_sem,r0,r1,r2]) rfl ⟨s2,A2,n2,c2,rfl,h2.st3 XR _ _ _ _ _ (by simp [no32]),k2,st3 HB.out (by omega) _ _ _⟩
def Jo.Fact.wn (z:Int)(K:Nat):Jo.Fact:=⟨fun v w=>∃s A n c,v= .agg #[.bool s,.slice A n c]∧Wn w s A n c z∧n≤K,fun v w w' h b=>by
 obtain⟨s,A,n,c,e,h,k⟩:=h
 exact⟨s,A,n,c,e,h.below b,k⟩⟩
def Jo.Fact.nm (a K:Nat):Jo.Fact:=⟨fun v w=>∃A n c,v= .slice A n c∧Nm w A n c a∧n≤K,fun v w w' h b=>by
 obtain⟨A,n,c,e,h,k⟩:=h
 exact⟨A,n,c,e,h.below b,k⟩⟩
def Jo.Fact.dy (N E:Int)(K:Nat):Jo.Fact:=⟨fun v w=>∃s A n c,v= .agg #[.bool s,.slice A n c,.int .i64 E]∧Wn w s A n c N∧n≤K,fun v w w' h b=>by
 obtain⟨s,A,n,c,e,h,k⟩:=h
 exact⟨s,A,n,c,e,h.below b,k⟩⟩
def Jo.Fact.wl (K n:Nat)(zs:List Int):Jo.Fact:=⟨fun v w=>∃A c,v= .slice A n c∧Wl w A n c K zs,fun v w w' h b=>by
 obtain⟨A,c,e,h⟩:=h
 exact⟨A,c,e,h.below b⟩⟩
theorem Bo.at{w:World}{g:Nat}{cs:Array Value}{T:TypeId}(h:Bo w g cs T){i:Nat}{v:Value}(e:cs[i]?=some v):w.cell? ⟨g,i,none⟩=some v:=(h.cell i).trans e
def no8 (v:Value):Bool:=match v with
 | .int .u8 _=>false
 | _=>true
def StN (w w':World)(g:Nat)(old new:Array Value)(T:TypeId):Prop:=
 Bo w g old T∧Bo w' g new T∧(∀k,k≠g→w'.heap[k]?=w.heap[k]?)∧∀B a,B≤g→Below B a w→Below B a w'
section
variable {w w':World} {g:Nat} {old new:Array Value} {T:TypeId}
theorem StN.box (S:StN w w' g old new T):Bo w' g new T:=S.2.1
theorem StN.mk3{a b c:Value}(X:Bo w g #[a,b,c] T)(u v t:Value):StN w (((w.setCell ⟨g,0,none⟩ u).setCell ⟨g,1,none⟩ v).setCell ⟨g,2,none⟩ t) g #[a,b,c] #[u,v,t] T:=
 ⟨X,by simpa using ((X.set 0 u).set 1 v).set 2 t,fun k hk=>by rw [Below.heap_setCell _ _ _ _ hk,Below.heap_setCell _ _ _ _ hk,Below.heap_setCell _ _ _ _ hk],fun B a hg h=>st3 h hg u v t⟩
theorem StN.mk2{a b:Value}(X:Bo w g #[a,b] T)(u v:Value):StN w ((w.setCell ⟨g,0,none⟩ u).setCell ⟨g,1,none⟩ v) g #[a,b] #[u,v] T:=
 ⟨X,by simpa using (X.set 0 u).set 1 v,fun k hk=>by rw [Below.heap_setCell _ _ _ _ hk,Below.heap_setCell _ _ _ _ hk],fun B a hg h=>st2 h hg u v⟩
theorem StN.below (S:StN w w' g old new T){B:Nat}{a:World}(h:Below B a w)(hg:B≤g):Below B a w':=S.2.2.2 B a hg h
theorem Bo.stn{k:Nat}{cs:Array Value}{R:TypeId}(X:Bo w k cs R)(S:StN w w' g old new T)(h:k≠g):Bo w' k cs R:=X.keep (S.2.2.1 k h)
theorem sl_stn{b:Nat}{B:Option Addr}{m d:Nat}{xs:List Nat}(h:Sl w b B m d xs)(S:StN w w' g old new T)(hn:old.all no32=true):Sl w' b B m d xs:=
 h.keep fun hm=>S.2.2.1 _ (fun e=>by
  obtain⟨o,_,hc⟩:=h.at hm
  have:=hc 0 hm
  rw [e]at this
  exact S.1.no hn this)
theorem Nm.stn{B:Option Addr}{m d a:Nat}(h:Nm w B m d a)(S:StN w w' g old new T)(hn:old.all no32=true):Nm w' B m d a:=by
 obtain⟨b,h⟩:=h
 exact⟨b,sl_stn h S hn⟩
theorem Rd.stn{B:Option Addr}{m d a:Nat}(h:Rd w B m d a)(S:StN w w' g old new T)(hn:old.all no32=true):Rd w' B m d a:=by
 obtain⟨b,xs,h,e⟩:=h
 exact⟨b,xs,sl_stn h S hn,e⟩
theorem Wn.stn{s:Bool}{B:Option Addr}{m d:Nat}{z:Int}(h:Wn w s B m d z)(S:StN w w' g old new T)(hn:old.all no32=true):Wn w' s B m d z:=⟨h.1.stn S hn,h.2⟩
theorem Wr.stn{s:Bool}{B:Option Addr}{m d:Nat}{z:Int}(h:Wr w s B m d z)(S:StN w w' g old new T)(hn:old.all no32=true):Wr w' s B m d z:=by
 obtain⟨a,h,e⟩:=h
 exact⟨a,h.stn S hn,e⟩
theorem Tab.stn (h:Tab w)(S:StN w w' g old new T)(hn:old.all no8=true):Tab w':=h.keep (S.2.2.1 _ (fun e=>by
 have h0:=h 0 (by decide)
 subst e
 rw [S.1.cell]at h0
 rw [Array.all_eq_true]at hn
 obtain⟨hlt,he⟩:=Array.getElem?_eq_some_iff.1 h0
 have:=hn 0 hlt
 rw [he]at this
 cases this))
end
theorem vShlZ{w:World}{A1:Option Addr}{n c1 a:Nat}{z:Int}{r:Nat}(h1:Rd w A1 n c1 a)(hn:n≤1073741824)(hz0:0≤z)(hz:z≤16777216)(hr:a*2^z.toNat=r):Calls Tryz.prog 79 #[.slice A1 n c1,.int .i64 z] w (P1 w (n+z.toNat/32+1) r):=by
 subst hr
 obtain⟨k,rfl⟩:=Int.eq_ofNat_of_zero_le hz0
 have:=vShl k h1 hn (by omega)
 simpa using this
theorem sg_times{w:World}{s:Bool}{A:Option Addr}{n c:Nat}{N:Int}{p m:Nat}{B:Option Addr}{d:Nat}{w':World}(h:Wn w s A n c N)(hp:0 < p)(k:Nm w' B m d (N.natAbs*p)):Wn w' s B m d (N*(p:Int)):=by
 refine⟨by rwa [Int.natAbs_mul,Int.natAbs_natCast],?_⟩
 rw [h.2,decide_eq_decide]
 constructor
 ·intro hh;exact Int.mul_neg_of_neg_of_pos hh (by omega)
 ·intro hh
  by_cases e:N < 0
  ·exact e
  ·exact absurd hh (Int.not_lt.2 (Int.mul_nonneg (by omega) (by omega)))
theorem Bo.a{w:World}{g:Nat}{cs:Array Value}{T:TypeId}(h:Bo w g cs T)(i:Nat)(v:Value)(e:cs[i]?=some v):w.cell? ⟨g,i,none⟩=some v:=h.at e
theorem Bo.ce2{w:World}{g:Nat}{cs:Array Value}{T:TypeId}(h:Bo w g cs T){v0 v1:Value}(e0:cs[0]?=some v0)(e1:cs[1]?=some v1):w.cell? ⟨g,0,none⟩=some v0∧w.cell? ⟨g,1,none⟩=some v1:=⟨h.at e0,h.at e1⟩
theorem Bo.ce3{w:World}{g:Nat}{cs:Array Value}{T:TypeId}(h:Bo w g cs T){v0 v1 v2:Value}(e0:cs[0]?=some v0)(e1:cs[1]?=some v1)(e2:cs[2]?=some v2):w.cell? ⟨g,0,none⟩=some v0∧w.cell? ⟨g,1,none⟩=some v1∧w.cell? ⟨g,2,none⟩=some v2:=⟨h.at e0,h.at e1,h.at e2⟩
theorem Bo.ce4{w:World}{g:Nat}{cs:Array Value}{T:TypeId}(h:Bo w g cs T){v0 v1 v2 v3:Value}(e0:cs[0]?=some v0)(e1:cs[1]?=some v1)(e2:cs[2]?=some v2)(e3:cs[3]?=some v3):w.cell? ⟨g,0,none⟩=some v0∧w.cell? ⟨g,1,none⟩=some v1∧w.cell? ⟨g,2,none⟩=some v2∧w.cell? ⟨g,3,none⟩=some v3:=⟨h.at e0,h.at e1,h.at e2,h.at e3⟩
theorem Bo.ce9{w:World}{g:Nat}{cs:Array Value}{T:TypeId}(h:Bo w g cs T){v0 v1 v2 v3 v4 v5 v6 v7 v8:Value}(e0:cs[0]?=some v0)(e1:cs[1]?=some v1)(e2:cs[2]?=some v2)(e3:cs[3]?=some v3)(e4:cs[4]?=some v4)(e5:cs[5]?=some v5)(e6:cs[6]?=some v6)(e7:cs[7]?=some v7)(e8:cs[8]?=some v8):w.cell? ⟨g,0,none⟩=some v0∧w.cell? ⟨g,1,none⟩=some v1∧w.cell? ⟨g,2,none⟩=some v2∧w.cell? ⟨g,3,none⟩=some v3∧w.cell? ⟨g,4,none⟩=some v4∧w.cell? ⟨g,5,none⟩=some v5∧w.cell? ⟨g,6,none⟩=some v6∧w.cell? ⟨g,7,none⟩=some v7∧w.cell? ⟨g,8,none⟩=some v8:=⟨h.at e0,h.at e1,h.at e2,h.at e3,h.at e4,h.at e5,h.at e6,h.at e7,h.at e8⟩
theorem Bo.en1{w w1:World}{c0:Array Value}{T0:TypeId}(h:w.alloc (.cells c0 T0)=w1):Bo w1 (w.heap.size) c0 T0∧RowKit.Hid (Below w.heap.size w w1):=h▸⟨(Bo.newAt (w) (g:=w.heap.size) (by simp) c0 T0),Lib.hid (bel1 w _)⟩
theorem Bo.en2{w w1:World}{c0:Array Value}{T0:TypeId}{c1:Array Value}{T1:TypeId}(h:(w.alloc (.cells c0 T0)).alloc (.cells c1 T1)=w1):Bo w1 (w.heap.size) c0 T0∧Bo w1 (w.heap.size+1) c1 T1∧RowKit.Hid (Below w.heap.size w w1):=h▸⟨(Bo.newAt (w) (g:=w.heap.size) (by simp) c0 T0).below (bel1 _ _),(Bo.newAt (w.alloc (.cells c0 T0)) (g:=w.heap.size+1) (by simp) c1 T1),Lib.hid (bel2 w _ _)⟩
theorem Bo.en3{w w1:World}{c0:Array Value}{T0:TypeId}{c1:Array Value}{T1:TypeId}{c2:Array Value}{T2:TypeId}(h:((w.alloc (.cells c0 T0)).alloc (.cells c1 T1)).alloc (.cells c2 T2)=w1):Bo w1 (w.heap.size) c0 T0∧Bo w1 (w.heap.size+1) c1 T1∧Bo w1 (w.heap.size+1+1) c2 T2∧RowKit.Hid (Below w.heap.size w w1):=h▸⟨(Bo.newAt (w) (g:=w.heap.size) (by simp) c0 T0).below (bel2 _ _ _),(Bo.newAt (w.alloc (.cells c0 T0)) (g:=w.heap.size+1) (by simp) c1 T1).below (bel1 _ _),(Bo.newAt ((w.alloc (.cells c0 T0)).alloc (.cells c1 T1)) (g:=w.heap.size+1+1) (by simp) c2 T2),Lib.hid (bel3 w _ _ _)⟩
theorem Bo.en4{w w1:World}{c0:Array Value}{T0:TypeId}{c1:Array Value}{T1:TypeId}{c2:Array Value}{T2:TypeId}{c3:Array Value}{T3:TypeId}(h:(((w.alloc (.cells c0 T0)).alloc (.cells c1 T1)).alloc (.cells c2 T2)).alloc (.cells c3 T3)=w1):Bo w1 (w.heap.size) c0 T0∧Bo w1 (w.heap.size+1) c1 T1∧Bo w1 (w.heap.size+1+1) c2 T2∧Bo w1 (w.heap.size+1+1+1) c3 T3∧RowKit.Hid (Below w.heap.size w w1):=h▸⟨(Bo.newAt (w) (g:=w.heap.size) (by simp) c0 T0).below (bel3 _ _ _ _),(Bo.newAt (w.alloc (.cells c0 T0)) (g:=w.heap.size+1) (by simp) c1 T1).below (bel2 _ _ _),(Bo.newAt ((w.alloc (.cells c0 T0)).alloc (.cells c1 T1)) (g:=w.heap.size+1+1) (by simp) c2 T2).below (bel1 _ _),(Bo.newAt (((w.alloc (.cells c0 T0)).alloc (.cells c1 T1)).alloc (.cells c2 T2)) (g:=w.heap.size+1+1+1) (by simp) c3 T3),Lib.hid (bel4 w _ _ _ _)⟩
theorem Bo.en5{w w1:World}{c0:Array Value}{T0:TypeId}{c1:Array Value}{T1:TypeId}{c2:Array Value}{T2:TypeId}{c3:Array Value}{T3:TypeId}{c4:Array Value}{T4:TypeId}(h:((((w.alloc (.cells c0 T0)).alloc (.cells c1 T1)).alloc (.cells c2 T2)).alloc (.cells c3 T3)).alloc (.cells c4 T4)=w1):Bo w1 (w.heap.size) c0 T0∧Bo w1 (w.heap.size+1) c1 T1∧Bo w1 (w.heap.size+1+1) c2 T2∧Bo w1 (w.heap.size+1+1+1) c3 T3∧Bo w1 (w.heap.size+1+1+1+1) c4 T4∧RowKit.Hid (Below w.heap.size w w1):=h▸⟨(Bo.newAt (w) (g:=w.heap.size) (by simp) c0 T0).below (bel4 _ _ _ _ _),(Bo.newAt (w.alloc (.cells c0 T0)) (g:=w.heap.size+1) (by simp) c1 T1).below (bel3 _ _ _ _),(Bo.newAt ((w.alloc (.cells c0 T0)).alloc (.cells c1 T1)) (g:=w.heap.size+1+1) (by simp) c2 T2).below (bel2 _ _ _),(Bo.newAt (((w.alloc (.cells c0 T0)).alloc (.cells c1 T1)).alloc (.cells c2 T2)) (g:=w.heap.size+1+1+1) (by simp) c3 T3).below (bel1 _ _),(Bo.newAt ((((w.alloc (.cells c0 T0)).alloc (.cells c1 T1)).alloc (.cells c2 T2)).alloc (.cells c3 T3)) (g:=w.heap.size+1+1+1+1) (by simp) c4 T4),Lib.hid (bel5 w _ _ _ _ _)⟩
theorem Bo.en6{w w1:World}{c0:Array Value}{T0:TypeId}{c1:Array Value}{T1:TypeId}{c2:Array Value}{T2:TypeId}{c3:Array Value}{T3:TypeId}{c4:Array Value}{T4:TypeId}{c5:Array Value}{T5:TypeId}(h:(((((w.alloc (.cells c0 T0)).alloc (.cells c1 T1)).alloc (.cells c2 T2)).alloc (.cells c3 T3)).alloc (.cells c4 T4)).alloc (.cells c5 T5)=w1):Bo w1 (w.heap.size) c0 T0∧Bo w1 (w.heap.size+1) c1 T1∧Bo w1 (w.heap.size+1+1) c2 T2∧Bo w1 (w.heap.size+1+1+1) c3 T3∧Bo w1 (w.heap.size+1+1+1+1) c4 T4∧Bo w1 (w.heap.size+1+1+1+1+1) c5 T5∧RowKit.Hid (Below w.heap.size w w1):=h▸⟨(Bo.newAt (w) (g:=w.heap.size) (by simp) c0 T0).below (bel5 _ _ _ _ _ _),(Bo.newAt (w.alloc (.cells c0 T0)) (g:=w.heap.size+1) (by simp) c1 T1).below (bel4 _ _ _ _ _),(Bo.newAt ((w.alloc (.cells c0 T0)).alloc (.cells c1 T1)) (g:=w.heap.size+1+1) (by simp) c2 T2).below (bel3 _ _ _ _),(Bo.newAt (((w.alloc (.cells c0 T0)).alloc (.cells c1 T1)).alloc (.cells c2 T2)) (g:=w.heap.size+1+1+1) (by simp) c3 T3).below (bel2 _ _ _),(Bo.newAt ((((w.alloc (.cells c0 T0)).alloc (.cells c1 T1)).alloc (.cells c2 T2)).alloc (.cells c3 T3)) (g:=w.heap.size+1+1+1+1) (by simp) c4 T4).below (bel1 _ _),(Bo.newAt (((((w.alloc (.cells c0 T0)).alloc (.cells c1 T1)).alloc (.cells c2 T2)).alloc (.cells c3 T3)).alloc (.cells c4 T4)) (g:=w.heap.size+1+1+1+1+1) (by simp) c5 T5),Lib.hid ((bel5 w _ _ _ _ _).alloc (by simp;omega) _)⟩
theorem Bo.nw{w w1:World}{c:Array Value}{T:TypeId}(h:w.alloc (.cells c T)=w1):Bo w1 w.heap.size c T∧Below w.heap.size w w1:=h▸⟨Bo.new w c T,bel1 w _⟩
theorem Bo.u2{w:World}{g:Nat}{T:TypeId}{v0 v1:Value}(h:Bo w g #[v0,v1] T):w.cell? ⟨g,0,none⟩=some v0∧w.cell? ⟨g,1,none⟩=some v1:=⟨h.at rfl,h.at rfl⟩
theorem Bo.u3{w:World}{g:Nat}{T:TypeId}{v0 v1 v2:Value}(h:Bo w g #[v0,v1,v2] T):w.cell? ⟨g,0,none⟩=some v0∧w.cell? ⟨g,1,none⟩=some v1∧w.cell? ⟨g,2,none⟩=some v2:=⟨h.at rfl,h.at rfl,h.at rfl⟩
theorem Bo.u4{w:World}{g:Nat}{T:TypeId}{v0 v1 v2 v3:Value}(h:Bo w g #[v0,v1,v2,v3] T):w.cell? ⟨g,0,none⟩=some v0∧w.cell? ⟨g,1,none⟩=some v1∧w.cell? ⟨g,2,none⟩=some v2∧w.cell? ⟨g,3,none⟩=some v3:=⟨h.at rfl,h.at rfl,h.at rfl,h.at rfl⟩
theorem Bo.u9{w:World}{g:Nat}{T:TypeId}{v0 v1 v2 v3 v4 v5 v6 v7 v8:Value}(h:Bo w g #[v0,v1,v2,v3,v4,v5,v6,v7,v8] T):w.cell? ⟨g,0,none⟩=some v0∧w.cell? ⟨g,1,none⟩=some v1∧w.cell? ⟨g,2,none⟩=some v2∧w.cell? ⟨g,3,none⟩=some v3∧w.cell? ⟨g,4,none⟩=some v4∧w.cell? ⟨g,5,none⟩=some v5∧w.cell? ⟨g,6,none⟩=some v6∧w.cell? ⟨g,7,none⟩=some v7∧w.cell? ⟨g,8,none⟩=some v8:=⟨h.at rfl,h.at rfl,h.at rfl,h.at rfl,h.at rfl,h.at rfl,h.at rfl,h.at rfl,h.at rfl⟩
theorem StN.of2{w w1:World}{g:Nat}{T:TypeId}{a0 a1 v0 v1:Value}(X:Bo w g #[a0,a1] T)(h:(w.setCell ⟨g,0,none⟩ v0).setCell ⟨g,1,none⟩ v1=w1):StN w w1 g #[a0,a1] #[v0,v1] T:=h▸StN.mk2 X v0 v1
theorem StN.of3{w w1:World}{g:Nat}{T:TypeId}{a0 a1 a2 v0 v1 v2:Value}(X:Bo w g #[a0,a1,a2] T)(h:((w.setCell ⟨g,0,none⟩ v0).setCell ⟨g,1,none⟩ v1).setCell ⟨g,2,none⟩ v2=w1):StN w w1 g #[a0,a1,a2] #[v0,v1,v2] T:=h▸StN.mk3 X v0 v1 v2
theorem Bo.w9{w:World}{g:Nat}{T:TypeId}{v0 v1 v2 v3 v4 v5 v6 v7 v8:Value}(h:Bo w g #[v0,v1,v2,v3,v4,v5,v6,v7,v8] T):w.cell? ⟨g,1,none⟩=some v1∧w.cell? ⟨g,2,none⟩=some v2∧w.cell? ⟨g,3,none⟩=some v3∧w.cell? ⟨g,4,none⟩=some v4:=⟨h.at rfl,h.at rfl,h.at rfl,h.at rfl⟩
theorem Bo.v9{w:World}{g:Nat}{T:TypeId}{v0 v1 v2 v3 v4 v5 v6 v7 v8:Value}(h:Bo w g #[v0,v1,v2,v3,v4,v5,v6,v7,v8] T):w.cell? ⟨g,5,none⟩=some v5∧w.cell? ⟨g,6,none⟩=some v6∧w.cell? ⟨g,7,none⟩=some v7∧w.cell? ⟨g,8,none⟩=some v8:=⟨h.at rfl,h.at rfl,h.at rfl,h.at rfl⟩
theorem Hqb{w w1 w2:World}(h:RowKit.Hid (Below w.heap.size w w1))(b:Below w1.heap.size w1 w2):RowKit.Hid (Below w.heap.size w w2):=Lib.hid (bt h.out b)
theorem Hqs{n g:Nat}{a w w':World}{o c:Array Value}{T:TypeId}(h:RowKit.Hid (Below n a w))(S:StN w w' g o c T)(hg:n≤g):RowKit.Hid (Below n a w'):=Lib.hid (S.below h.out hg)
abbrev LQ (m:Int):Prop:=m < 18446744073709551616
abbrev VQ (D:Int)(s:Bool)(M E:Int):Value:= .agg #[.int .i64 D,.bool s,.int .u64 M,.int .i64 E]
abbrev VI (e:Bool)(D:Int)(s:Bool)(M E:Int)(D':Int)(s':Bool)(M' E':Int):Value:= .agg #[.bool e,.int .i64 D,.bool s,.int .u64 M,.int .i64 E,.int .i64 D',.bool s',.int .u64 M',.int .i64 E']
theorem flr_neg{N E:Int}(hE:E < 0)(ho:N.natAbs%2=1)(hN:N < 0):flr N E= -((N.natAbs/2^(-E).toNat+1:Nat):Int):=by
 unfold flr
 rw [if_neg (by omega)];obtain⟨k,hk⟩:∃k,(-E).toNat=k+1:=⟨(-E).toNat-1,by omega⟩
 rw [hk]
 have hp:0 < 2^(k+1):=Nat.pow_pos (by decide)
 have hd:=Nat.div_add_mod N.natAbs (2^(k+1))
 have hm:N.natAbs%2^(k+1)≠0:=by
  intro e
  rw [e,Nat.pow_succ,Nat.add_zero]at hd
  have:N.natAbs%2=0:=by rw [←hd,Nat.mul_comm _ 2,Nat.mul_assoc];exact Nat.mul_mod_right _ _
  omega
 have hlt:=Nat.mod_lt N.natAbs hp
 revert hd hm hlt
 generalize N.natAbs%2^(k+1)=r;generalize N.natAbs/2^(k+1)=q;generalize 2^(k+1)=P at *
 intro hd hm hlt
 have e1:N= -((P:Int)*q)-r:=by
  have:((P*q+r:Nat):Int)=(N.natAbs:Int):=by rw [hd]
  rw [Int.natCast_add,Int.natCast_mul]at this
  omega
 have:=(div_un (x:=N) (y:=(P:Int)) (q:= -((q+1:Nat):Int)) (r:=(P:Int)-r) (by omega) (by
  rw [e1,Int.natCast_add,Int.mul_neg,Int.mul_add]
  omega) (fun _=>by omega) (fun h=>by omega)).1
 exact this.symm
theorem flr_pos{N E:Int}(hE:E < 0)(hN:0≤N):flr N E=((N.natAbs/2^(-E).toNat:Nat):Int):=by
 unfold flr
 rw [if_neg (by omega)]
 have hN2:N=(N.natAbs:Int):=by omega
 generalize (-E).toNat=k;rw [hN2,Int.natAbs_natCast];generalize N.natAbs=a;rw [Int.fdiv_eq_ediv_of_nonneg _ (Int.natCast_nonneg _)]
 rfl
def Dl (w:World)(A:Option Addr)(n c K:Nat)(l:List (Int × Int)):Prop:=
 l.length=n∧n≤c∧n≤1099511627776∧(0 < n→∃b o,A=some ⟨b,o,none⟩∧∀k,k < n→∃s B m d,w.cell? ⟨b,o+k*3,none⟩=some (.bool s)∧w.cell? ⟨b,o+k*3+1,none⟩=some (.slice B m d)∧w.cell? ⟨b,o+k*3+2,none⟩=some (.int .i64 (l.getD k (0,0)).2)∧Wr w s B m d (l.getD k (0,0)).1∧m≤K)
theorem Dl.below{w w':World}{A:Option Addr}{n c K:Nat}{l:List (Int × Int)}(h:Dl w A n c K l)(hb:Below w.heap.size w w'):Dl w' A n c K l:=by
 obtain⟨h1,h2,h3,h4⟩:=h
 refine⟨h1,h2,h3,fun hn=>?_⟩
 obtain⟨b,o,e,hc⟩:=h4 hn
 refine⟨b,o,e,fun k hk=>?_⟩
 obtain⟨s,B,m,d,c0,c1,c2,hw,hm⟩:=hc k hk;exact⟨s,B,m,d,(hb.cell (p:=⟨b,_,none⟩) (block_lt_of_cell c0)).trans c0,(hb.cell (p:=⟨b,_,none⟩) (block_lt_of_cell c1)).trans c1,(hb.cell (p:=⟨b,_,none⟩) (block_lt_of_cell c2)).trans c2,hw.below hb,hm⟩
def TP:Int:=19342822337206103650074625
theorem TP_eq:TP=19342822337206103650074625:=rfl
def MayQ (K:Int)(s:Bool)(M E:Int):Prop:=(K=0∧s=false∧M=0∧E=0)∨(K=1∧9223372036854775808≤M∧ -1048576≤E∧E≤1048576)∨(K=2∧M=0∧E=0)
instance (K:Int) (s:Bool) (M E:Int):Decidable (MayQ K s M E):=by unfold MayQ;infer_instance
def plc (K M E:Int):Int:=if K=0 then 0 else if K=1 then M-9223372036854775808+1+(E+1048576)*9223372036854775808 else TP
def sgi (s:Bool)(x:Int):Int:=if s=true then -x else x
def rk (K:Int)(s:Bool)(M E:Int):Int:=if MayQ K s M E then sgi s (plc K M E)else 0
def Fq (K:Int)(s:Bool)(M E r:Int):Prop:=MayQ K s M E∧M < 18446744073709551616∧sgi s (plc K M E)=r
theorem Fq.cases{K:Int}{s:Bool}{M E r:Int}(h:Fq K s M E r):(K=0∧s=false∧M=0∧E=0∧r=0)∨(K=1∧9223372036854775808≤M∧M < 18446744073709551616∧ -1048576≤E∧E≤1048576∧((s=false∧r=M-9223372036854775808+1+(E+1048576)*9223372036854775808)∨(s=true∧ -r=M-9223372036854775808+1+(E+1048576)*9223372036854775808)))
  ∨(K=2∧M=0∧E=0∧((s=false∧r=19342822337206103650074625)∨(s=true∧r= -19342822337206103650074625))):=by
 obtain⟨h1,h2,h3⟩:=h
 rcases h1 with⟨rfl,rfl,rfl,rfl⟩ | ⟨rfl,h4,h5,h6⟩ | ⟨rfl,rfl,rfl⟩
 ·left
  exact⟨rfl,rfl,rfl,rfl,by rw [←h3];rfl⟩
 ·right;left
  refine⟨rfl,h4,h2,h5,h6,?_⟩
  cases s
  ·left
   exact⟨rfl,h3.symm⟩
  ·right
   have h3': -(M-9223372036854775808+1+(E+1048576)*9223372036854775808)=r:=h3
   exact⟨rfl,by rw [←h3',Int.neg_neg]⟩
 ·right;right
  refine⟨rfl,rfl,rfl,?_⟩
  cases s
  ·left
   exact⟨rfl,h3.symm⟩
  ·right
   exact⟨rfl,h3.symm⟩
theorem Fq.fin{s:Bool}{M E r:Int}(h1:9223372036854775808≤M)(h2:M < 18446744073709551616)(h3: -1048576≤E)(h4:E≤1048576)(hr:sgi s (M-9223372036854775808+1+(E+1048576)*9223372036854775808)=r):Fq 1 s M E r:=
 ⟨Or.inr (Or.inl ⟨rfl,h1,h3,h4⟩),h2,hr⟩
theorem Fq.nought:Fq 0 false 0 0 0:=⟨Or.inl ⟨rfl,rfl,rfl,rfl⟩,by decide,rfl⟩
theorem Fq.inf (s:Bool):Fq 2 s 0 0 (sgi s TP):=⟨Or.inr (Or.inr ⟨rfl,rfl,rfl⟩),by decide,rfl⟩
theorem Fq.uniq{K K':Int}{s s':Bool}{M M' E E' r:Int}(h:Fq K s M E r)(k:Fq K' s' M' E' r):K=K'∧s=s'∧M=M'∧E=E':=by
 rcases h.cases with⟨rfl,rfl,rfl,rfl,h0⟩ | ⟨rfl,h1,h2,h3,h4,⟨rfl,h5⟩ | ⟨rfl,h5⟩⟩ | ⟨rfl,rfl,rfl,⟨rfl,h5⟩ | ⟨rfl,h5⟩⟩ <;>
  rcases k.cases with⟨rfl,rfl,rfl,rfl,k0⟩ | ⟨rfl,k1,k2,k3,k4,⟨rfl,k5⟩ | ⟨rfl,k5⟩⟩ | ⟨rfl,rfl,rfl,⟨rfl,k5⟩ | ⟨rfl,k5⟩⟩ <;>
  first | exact⟨rfl,rfl,rfl,rfl⟩ | (exfalso;omega) | exact⟨rfl,rfl,by omega,by omega⟩
theorem Fq.bd{K:Int}{s:Bool}{M E r:Int}(h:Fq K s M E r): -19342822337206103650074625≤r∧r≤19342822337206103650074625:=by
 rcases h.cases with⟨rfl,rfl,rfl,rfl,h0⟩ | ⟨rfl,h1,h2,h3,h4,⟨rfl,h5⟩ | ⟨rfl,h5⟩⟩ | ⟨rfl,rfl,rfl,⟨rfl,h5⟩ | ⟨rfl,h5⟩⟩ <;> omega
theorem Fq.top{K:Int}{s:Bool}{M E r:Int}(h:Fq K s M E r):M < 18446744073709551616:=h.2.1
theorem Fq.rk{K:Int}{s:Bool}{M E r:Int}(h:Fq K s M E r):rk K s M E=r:=by
 unfold Go.Proofs.YtaadmpiphnfllaaGreatDoor.rk
 rw [if_pos h.1];exact h.2.2
theorem rk_not{K:Int}{s:Bool}{M E:Int}(h:¬MayQ K s M E):rk K s M E=0:=by
 unfold rk
 rw [if_neg h]
theorem rk_fq{K:Int}{s:Bool}{M E:Int}(hM:M < 18446744073709551616)(h:MayQ K s M E):Fq K s M E (rk K s M E):=⟨h,hM,by unfold rk;rw [if_pos h]⟩
theorem rk_bd{K:Int}{s:Bool}{M E:Int}(hM:LQ M): -19342822337206103650074625≤rk K s M E∧rk K s M E≤19342822337206103650074625:=by
 by_cases h:MayQ K s M E
 ·exact (rk_fq hM h).bd
 ·rw [rk_not h];decide
theorem rk_neg{K:Int}{s:Bool}{M E r:Int}(h:Fq K s M E r)(hK:K≠0):Fq K (!s) M E (-r):=by
 rcases h.cases with⟨rfl,rfl,rfl,rfl,h0⟩ | ⟨rfl,h1,h2,h3,h4,⟨rfl,h5⟩ | ⟨rfl,h5⟩⟩ | ⟨rfl,rfl,rfl,⟨rfl,h5⟩ | ⟨rfl,h5⟩⟩
 ·exact absurd rfl hK
 ·exact Fq.fin h1 h2 h3 h4 (by rw [h5];rfl)
 ·exact Fq.fin h1 h2 h3 h4 (by rw [h5];rfl)
 ·subst h5;exact Fq.inf true
 ·subst h5;exact Fq.inf false
def fa (K M E K' M' E':Int):Int:=if K≠K' then cmpI K K' else if E≠E' then cmpI E E' else cmpI M M'
theorem fa_bd (K M E K' M' E':Int): -1≤fa K M E K' M' E'∧fa K M E K' M' E'≤1:=by
 unfold fa
 split
 ·exact cmpI_bd _ _
 ·split
  ·exact cmpI_bd _ _
  ·exact cmpI_bd _ _
theorem cmpI_tri (x y:Int):(x < y∧cmpI x y= -1)∨(x=y∧cmpI x y=0)∨(y < x∧cmpI x y=1):=by
 unfold cmpI
 by_cases h1:x < y
 ·rw [if_pos h1];exact Or.inl ⟨h1,rfl⟩
 ·by_cases h2:y < x
  ·rw [if_neg h1,if_pos h2];exact Or.inr (Or.inr ⟨h2,rfl⟩)
  ·rw [if_neg h1,if_neg h2];exact Or.inr (Or.inl ⟨by omega,rfl⟩)
theorem Fq.plc{K:Int}{s:Bool}{M E r:Int}(h:Fq K s M E r)(hK:K≠0):(K=1∧9223372036854775808≤M∧M < 18446744073709551616∧ -1048576≤E∧E≤1048576∧plc K M E=M-9223372036854775808+1+(E+1048576)*9223372036854775808)∨(K=2∧M=0∧E=0∧plc K M E=19342822337206103650074625):=by
 obtain⟨h1,h2,h3⟩:=h
 rcases h1 with⟨rfl,rfl,rfl,rfl⟩ | ⟨rfl,h4,h5,h6⟩ | ⟨rfl,rfl,rfl⟩
 ·exact absurd rfl hK
 ·exact Or.inl ⟨rfl,h4,h2,h5,h6,rfl⟩
 ·exact Or.inr ⟨rfl,rfl,rfl,rfl⟩
theorem fa_plc{K K':Int}{s s':Bool}{M M' E E' r r':Int}(h:Fq K s M E r)(k:Fq K' s' M' E' r')(hK:K≠0)(hK':K'≠0):fa K M E K' M' E'=cmpI (plc K M E) (plc K' M' E'):=by
 unfold fa
 rcases h.plc hK with⟨rfl,h1,h2,h3,h4,h5⟩ | ⟨rfl,rfl,rfl,h5⟩ <;> rcases k.plc hK' with⟨rfl,k1,k2,k3,k4,k5⟩ | ⟨rfl,rfl,rfl,k5⟩ <;> simp only [h5,k5]
 ·rw [if_neg (by decide)]
  rcases cmpI_tri E E' with⟨b1,b2⟩ | ⟨b1,b2⟩ | ⟨b1,b2⟩
  ·rw [if_pos (by omega),b2,cmpI_lt (by omega)]
  ·rw [if_neg (by omega)]
   rcases cmpI_tri M M' with⟨c1,c2⟩ | ⟨c1,c2⟩ | ⟨c1,c2⟩
   ·rw [c2,cmpI_lt (by omega)]
   ·rw [c2,cmpI_eq (by omega)]
   ·rw [c2,cmpI_gt (by omega)]
  ·rw [if_pos (by omega),b2,cmpI_gt (by omega)]
 ·rw [if_pos (by decide),cmpI_lt (by decide),cmpI_lt (by omega)]
 ·rw [if_pos (by decide),cmpI_gt (by decide),cmpI_gt (by omega)]
 ·rw [if_neg (by decide),if_neg (by decide)]
  rfl
theorem plc_pos{K:Int}{s:Bool}{M E r:Int}(h:Fq K s M E r)(hK:K≠0):0 < plc K M E:=by
 rcases h.plc hK with⟨rfl,h1,h2,h3,h4,h5⟩ | ⟨rfl,rfl,rfl,h5⟩ <;> rw [h5] <;> omega
theorem cmpI_negs (x y:Int):cmpI (-x) (-y)= -cmpI x y:=by
 rcases cmpI_tri x y with⟨a1,a2⟩ | ⟨a1,a2⟩ | ⟨a1,a2⟩ <;> rw [a2]
 ·rw [cmpI_gt (by omega),Int.neg_neg]
 ·rw [cmpI_eq (by omega)];rfl
 ·rw [cmpI_lt (by omega)]
theorem fa_fq{K K':Int}{s:Bool}{M M' E E' r r':Int}(h:Fq K s M E r)(k:Fq K' s M' E' r')(hK:K≠0)(hK':K'≠0):cmpI r 0*fa K M E K' M' E'=cmpI r r':=by
 rw [fa_plc h k hK hK',←h.2.2,←k.2.2];have p1:=plc_pos h hK
 cases s
 ·show cmpI (plc K M E) 0*_=cmpI (plc K M E) (plc K' M' E')
  rw [cmpI_gt p1,Int.one_mul]
 ·show cmpI (-plc K M E) 0*_=cmpI (-plc K M E) (-plc K' M' E')
  rw [cmpI_lt (show -plc K M E < 0 by omega),cmpI_negs,Int.neg_mul,Int.one_mul]
theorem Fq.zero_iff{K:Int}{s:Bool}{M E r:Int}(h:Fq K s M E r):K=0↔r=0:=by
 rcases h.cases with⟨rfl,rfl,rfl,rfl,h0⟩ | ⟨rfl,h1,h2,h3,h4,⟨rfl,h5⟩ | ⟨rfl,h5⟩⟩ | ⟨rfl,rfl,rfl,⟨rfl,h5⟩ | ⟨rfl,h5⟩⟩ <;> constructor <;> intro _ <;> omega
theorem Fq.sign{K:Int}{s:Bool}{M E r:Int}(h:Fq K s M E r)(hK:K≠0):cmpI r 0=if s=true then -1 else 1:=by
 rcases h.cases with⟨rfl,rfl,rfl,rfl,h0⟩ | ⟨rfl,h1,h2,h3,h4,⟨rfl,h5⟩ | ⟨rfl,h5⟩⟩ | ⟨rfl,rfl,rfl,⟨rfl,h5⟩ | ⟨rfl,h5⟩⟩
 ·exact absurd rfl hK
 ·rw [cmpI_gt (by omega)];rfl
 ·rw [cmpI_lt (by omega)];rfl
 ·rw [cmpI_gt (by omega)];rfl
 ·rw [cmpI_lt (by omega)];rfl
theorem cmp_far{K K':Int}{s s':Bool}{M M' E E':Int}(hM:LQ M)(hM':LQ M')(he:cmpI (rk K s M E) 0=cmpI (rk K' s' M' E') 0):cmpI (rk K s M E) 0*fa K M E K' M' E'=cmpI (rk K s M E) (rk K' s' M' E'):=by
 by_cases h0:rk K s M E=0
 ·have h1:rk K' s' M' E'=0:=by
   rw [h0,cmpI_eq rfl]at he;exact cmpI_zero.1 he.symm
  rw [h0,h1,cmpI_eq rfl,Int.zero_mul]
 ·have h1:rk K' s' M' E'≠0:=fun h=>by
   rw [h,cmpI_eq rfl]at he;exact h0 (cmpI_zero.1 he)
  have m1:MayQ K s M E:=Decidable.by_contra fun h=>h0 (rk_not h)
  have m2:MayQ K' s' M' E':=Decidable.by_contra fun h=>h1 (rk_not h)
  have f1:=rk_fq hM m1;have f2:=rk_fq hM' m2
  have k1:K≠0:=fun h=>h0 (f1.zero_iff.1 h)
  have k2:K'≠0:=fun h=>h1 (f2.zero_iff.1 h)
  have hs:s=s':=by
   rw [f1.sign k1,f2.sign k2]at he
   cases s <;> cases s' <;> first | rfl | exact absurd he (by decide)
  subst hs;exact fa_fq f1 f2 k1 k2
theorem cmp_sign{x y:Int}(he:cmpI x 0≠cmpI y 0):cmpI (cmpI x 0) (cmpI y 0)=cmpI x y:=by
 rcases cmpI_tri x 0 with⟨a1,a2⟩ | ⟨a1,a2⟩ | ⟨a1,a2⟩ <;> rcases cmpI_tri y 0 with⟨b1,b2⟩ | ⟨b1,b2⟩ | ⟨b1,b2⟩ <;> rw [a2,b2]at he⊢
 ·exact absurd rfl he
 ·rw [cmpI_lt (show x < y by omega)];rfl
 ·rw [cmpI_lt (show x < y by omega)];rfl
 ·rw [cmpI_gt (show y < x by omega)];rfl
 ·exact absurd rfl he
 ·rw [cmpI_lt (show x < y by omega)];rfl
 ·rw [cmpI_gt (show y < x by omega)];rfl
 ·rw [cmpI_gt (show y < x by omega)];rfl
 ·exact absurd rfl he
def nx (up:Bool)(r:Int):Int:=if up=true then min TP (r+1)else max (-TP) (r-1)
end Go.Proofs.YtaadmpiphnfllaaGreatDoor
namespace Go.Proofs.YtaadmpiphnfllaaGreatDoor
open Go.RowKit
set_option linter.unusedVariables false
theorem StN.mk4{w:World}{g:Nat}{T:TypeId}{a b c d:Value}(X:Bo w g #[a,b,c,d] T)(u v t x:Value):StN w ((((w.setCell ⟨g,0,none⟩ u).setCell ⟨g,1,none⟩ v).setCell ⟨g,2,none⟩ t).setCell ⟨g,3,none⟩ x) g #[a,b,c,d] #[u,v,t,x] T:=
 ⟨X,by simpa using (((X.set 0 u).set 1 v).set 2 t).set 3 x,fun k hk=>by rw [Below.heap_setCell _ _ _ _ hk,Below.heap_setCell _ _ _ _ hk,Below.heap_setCell _ _ _ _ hk,Below.heap_setCell _ _ _ _ hk],fun B a hg h=>below_store (st3 h hg u v t) hg 3 x⟩
theorem StN.at4{w:World}{g:Nat}{T:TypeId}{cs:Array Value}(X:Bo w g cs T)(i:Nat)(v:Value):StN w (w.setCell ⟨g,i,none⟩ v) g cs (cs.setIfInBounds i v) T:=
 ⟨X,X.set i v,fun k hk=>Below.heap_setCell _ _ _ _ hk,fun B a hg h=>below_store h hg i v⟩
theorem mayQ0{s:Bool}{M E:Int}:decide (MayQ 0 s M E)=((s==false) && ((M==0) && (E==0))):=by
 unfold MayQ
 rw [Bool.eq_iff_iff]
 simp
theorem mayQ1{s:Bool}{M E:Int}:decide (MayQ 1 s M E)=(decide (9223372036854775808≤M) && (decide (-1048576≤E) && decide (E≤1048576))):=by
 unfold MayQ
 rw [Bool.eq_iff_iff]
 simp
theorem mayQ2{s:Bool}{M E:Int}:decide (MayQ 2 s M E)=((M==0) && (E==0)):=by
 unfold MayQ
 rw [Bool.eq_iff_iff]
 simp
theorem mayQ3{K:Int}{s:Bool}{M E:Int}(h0:K≠0)(h1:K≠1)(h2:K≠2):decide (MayQ K s M E)=false:=by
 unfold MayQ
 simp [h0,h1,h2]
set_option maxHeartbeats 1000000 in
theorem nMay{w:World}{K M E:Int}{s:Bool}{r:Bool}(hr:decide (MayQ K s M E)=r):Calls Tryz.prog 34 #[VQ K s M E] w (PB w r):=by
 delta VQ
 subst hr
 by_cases h0:K=0
 ·subst h0;rw [mayQ0]
  go_enter Tryz.func34,Tryz.ntmps34
  go_wp2
  all_goals go_ret
  all_goals exact⟨by simp_all,bel1 _ _⟩
 by_cases h1:K=1
 ·subst h1;rw [mayQ1]
  by_cases c1:9223372036854775808≤M
  ·have e1:decide (9223372036854775808≤M)=true:=decide_eq_true c1
   by_cases c2: -1048576≤E
   ·have e2:decide (-1048576≤E)=true:=decide_eq_true c2
    by_cases c3:E≤1048576
    ·have e3:decide (E≤1048576)=true:=decide_eq_true c3
     rw [e1,e2,e3]
     go_enter Tryz.func34,Tryz.ntmps34
     go_wp2
     go_ret
     exact⟨rfl,bel1 _ _⟩
    ·have e3:decide (E≤1048576)=false:=decide_eq_false c3
     rw [e1,e2,e3]
     go_enter Tryz.func34,Tryz.ntmps34
     go_wp2
     go_ret
     exact⟨rfl,bel1 _ _⟩
   ·have e2:decide (-1048576≤E)=false:=decide_eq_false c2
    rw [e1,e2]
    go_enter Tryz.func34,Tryz.ntmps34
    go_wp2
    go_ret
    exact⟨rfl,bel1 _ _⟩
  ·have e1:decide (9223372036854775808≤M)=false:=decide_eq_false c1
   rw [e1]
   go_enter Tryz.func34,Tryz.ntmps34
   go_wp2
   go_ret
   exact⟨rfl,bel1 _ _⟩
 by_cases h2:K=2
 ·subst h2;rw [mayQ2]
  by_cases c1:M=0
  ·subst c1
   by_cases c2:E=0
   ·subst c2
    go_enter Tryz.func34,Tryz.ntmps34
    go_wp2
    go_ret
    exact⟨rfl,bel1 _ _⟩
   ·have e2:(E==0)=false:=by simpa using c2
    rw [e2]
    go_enter Tryz.func34,Tryz.ntmps34
    go_wp2
    go_ret
    exact⟨rfl,bel1 _ _⟩
  ·have e1:(M==0)=false:=by simpa using c1
   rw [e1]
   go_enter Tryz.func34,Tryz.ntmps34
   go_wp2
   go_ret
   exact⟨rfl,bel1 _ _⟩
 ·rw [mayQ3 h0 h1 h2]
  have e0:(K==0)=false:=by simpa using h0
  have e1:(K==1)=false:=by simpa using h1
  have e2:(K==2)=false:=by simpa using h2
  go_enter Tryz.func34,Tryz.ntmps34
  go_wp2
  go_ret
  exact⟨rfl,bel1 _ _⟩
theorem StN.of4{w w1:World}{g:Nat}{T:TypeId}{a0 a1 a2 a3 v0 v1 v2 v3:Value}(X:Bo w g #[a0,a1,a2,a3] T)(h:(((w.setCell ⟨g,0,none⟩ v0).setCell ⟨g,1,none⟩ v1).setCell ⟨g,2,none⟩ v2).setCell ⟨g,3,none⟩ v3=w1):StN w w1 g #[a0,a1,a2,a3] #[v0,v1,v2,v3] T:=h▸StN.mk4 X v0 v1 v2 v3
end Go.Proofs.YtaadmpiphnfllaaGreatDoor
