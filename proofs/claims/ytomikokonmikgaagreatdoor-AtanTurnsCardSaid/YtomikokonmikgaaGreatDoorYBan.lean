/-
 Contracts that the proof rests on.
-/
import Derived.Deep.DeepCutAuto
import Derived.Test.YtomikokonmikgaaGreatDoorYBai
import Derived.Test.YtomikokonmikgaaGreatDoorYBam
namespace Go.Proofs.YtomikokonmikgaaGreatDoor
set_option maxHeartbeats 4000000
open Go.RowKit
set_option linter.unusedVariables false
theorem Bx.far3{w:World}{g:Nat}{s:Bool}{A:Option Addr}{n c:Nat}(h:Bx w g s A n c){k:Nat}(hk:g≠k)(u v t:Value):Bx (((w.setCell ⟨k,0,none⟩ u).setCell ⟨k,1,none⟩ v).setCell ⟨k,2,none⟩ t) g s A n c:=
 h.keep (by rw[Below.heap_setCell _ _ _ _ hk,Below.heap_setCell _ _ _ _ hk,Below.heap_setCell _ _ _ _ hk])
set_option maxRecDepth 100000
def VW (w:World)(v:Value)(z:Int):Prop:=∃s A n c,v= .agg #[.bool s,.slice A n c]/\Wn w s A n c z
def VD (w:World)(v:Value)(N E:Int):Prop:=∃s A n c,v= .agg #[.bool s,.slice A n c,.int .i64 E]/\Wn w s A n c N
def VN (w:World)(v:Value)(a:Nat):Prop:=∃A n c,v= .slice A n c/\Nm w A n c a
theorem VW.below{w w':World}{v:Value}{z:Int}(h:VW w v z)(hb:Below w.heap.size w w'):VW w' v z:=by
 obtain⟨s,A,n,c,rfl,h⟩:=h;exact⟨s,A,n,c,rfl,h.below hb⟩
abbrev VW.b:= @VW.below
theorem VD.below{w w':World}{v:Value}{N E:Int}(h:VD w v N E)(hb:Below w.heap.size w w'):VD w' v N E:=by
 obtain⟨s,A,n,c,rfl,h⟩:=h;exact⟨s,A,n,c,rfl,h.below hb⟩
abbrev VD.b:= @VD.below
theorem VN.below{w w':World}{v:Value}{a:Nat}(h:VN w v a)(hb:Below w.heap.size w w'):VN w' v a:=by
 obtain⟨A,n,c,rfl,h⟩:=h;exact⟨A,n,c,rfl,h.below hb⟩
abbrev VN.b:= @VN.below
theorem dmake_out{w:World}{s:Bool}{A:Option Addr}{n c:Nat}{z e:Int}(h:Wr w s A n c z)(hc:inE e=false):
  Calls Tryz.prog 246 #[.agg #[.bool s,.slice A n c],.int .i64 e] w (D1 w n 0 0):=by
 go_enter Tryz.func246,Tryz.ntmps246
 go_wp2_with fail
 have XR:Bo ((w.alloc (.cells #[.bool s,.slice A n c] 27)).alloc (.cells #[.bool false,.slice none 0 0,.int .i64 0] 124)) (w.heap.size+1) #[.bool false,.slice none 0 0,.int .i64 0] 124:=Bo.newAt _ (by simp) _ _
 have HB:=Lib.hid (bel2 w (.cells #[.bool s,.slice A n c] 27) (.cells #[.bool false,.slice none 0 0,.int .i64 0] 124));refine(dWithin hc).mono ?_;rintro ee w1 ⟨rfl,B⟩;replace XR:=XR.b B;replace HB:=Lib.hid (bt HB.out B);clear B;have r0:=XR.c0;have r1:=XR.c1;have r2:=XR.c2;have q0:=XR.frozen 0;have q1:=XR.frozen 1;have q2:=XR.frozen 2;go_wp2;exact bodyPost_ret (v:= .agg #[.bool false,.slice none 0 0,.int .i64 0]) (by simp[results,Tryz.results246,go_sem,r0,r1,r2]) rfl ⟨false,none,0,0,rfl,Wn.zero.st3 XR _ _ _ _ _ (by simp[no32]),Nat.zero_le _,st3 HB.out (by omega) _ _ _⟩
theorem dmake_zero{w:World}{s:Bool}{A:Option Addr}{n c:Nat}{e:Int}(h:Wr w s A n c 0)(hc:inE e=true):
  Calls Tryz.prog 246 #[.agg #[.bool s,.slice A n c],.int .i64 e] w (D1 w n 0 0):=by
 go_enter Tryz.func246,Tryz.ntmps246
 go_wp2_with fail
 have XR:Bo ((w.alloc (.cells #[.bool s,.slice A n c] 27)).alloc (.cells #[.bool false,.slice none 0 0,.int .i64 0] 124)) (w.heap.size+1) #[.bool false,.slice none 0 0,.int .i64 0] 124:=Bo.newAt _ (by simp) _ _
 have HB:=Lib.hid (bel2 w (.cells #[.bool s,.slice A n c] 27) (.cells #[.bool false,.slice none 0 0,.int .i64 0] 124))
 have X2:Bx ((w.alloc (.cells #[.bool s,.slice A n c] 27)).alloc (.cells #[.bool false,.slice none 0 0,.int .i64 0] 124)) w.heap.size s A n c:=(Bx.new w s A n c).below (bel1 _ _)
 refine(dWithin hc).mono ?_;rintro ee w1 ⟨rfl,B⟩;replace XR:=XR.b B;replace X2:=X2.b B;replace HB:=Lib.hid (bt HB.out B);clear B;have x0:=X2.cell0;have x1:=X2.cell1
 go_wp2_with fail
 refine(wSign (r:=0) (h.below HB.out) (cmpI_eq rfl)).mono ?_;rintro ee w2 ⟨rfl,B⟩;replace XR:=XR.b B;replace HB:=Lib.hid (bt HB.out B);clear B;have r0:=XR.c0;have r1:=XR.c1;have r2:=XR.c2;have q0:=XR.frozen 0;have q1:=XR.frozen 1;have q2:=XR.frozen 2;go_wp2;exact bodyPost_ret (v:= .agg #[.bool false,.slice none 0 0,.int .i64 0]) (by simp[results,Tryz.results246,go_sem,r0,r1,r2]) rfl ⟨false,none,0,0,rfl,Wn.zero.st3 XR _ _ _ _ _ (by simp[no32]),Nat.zero_le _,st3 HB.out (by omega) _ _ _⟩
theorem dmake_in{w:World}{s:Bool}{A:Option Addr}{n c:Nat}{z e N E:Int}(hT:Tab w)(h:Wr w s A n c z)(hn:n<=100000)(h0:z≠0)(hc:inE e=true)(HN:Hid ((mk z e).1=N))(HE:Hid ((mk z e).2=E)):
  Calls Tryz.prog 246 #[.agg #[.bool s,.slice A n c],.int .i64 e] w (D1 w n N E):=by
 have ha:z.natAbs≠0:=by omega
 have hv:v2 z.natAbs < 3200001:=by
  have e1:=v2_pow_le ha;have e2:=h.rd.bound;rw[pow32]at e2;have e3:=(Nat.pow_lt_pow_iff_right (a:=2) (by decide)).1 (Nat.lt_of_le_of_lt e1 e2)
  omega
 have hin: -4194304<=e/\e<=4194304:=by simpa [inE]using hc
 obtain⟨hi1,hi2⟩:=hin
 have hs1:(cmpI z 0==0)=false:=by
  have:=(cmpI_zero (x:=z) (y:=0))
  have h2:cmpI z 0≠0:=fun e=>h0 (this.1 e)
  simpa using h2
 obtain⟨sz,hsz⟩:∃q,cmpI z 0=q:=⟨_,rfl⟩;rw[hsz]at hs1;have hrd:=h.rd;have hsg:=h.eq;obtain⟨m,hm⟩:∃m,v2 z.natAbs=m:=⟨_,rfl⟩;have HM:=Lib.hid hm
 have hm1:m < 3200001:=by omega
 have hw:IntKind.i64.wrap (e+m)=e+m:=IntWalk.i64_in _ (by omega)
 have HW:=Lib.hid hw;clear hm hv hw
 go_enter Tryz.func246,Tryz.ntmps246
 go_wp2_with fail
 have X2:Bx ((w.alloc (.cells #[.bool s,.slice A n c] 27)).alloc (.cells #[.bool false,.slice none 0 0,.int .i64 0] 124)) w.heap.size s A n c:=(Bx.new w s A n c).below (bel1 _ _)
 have XR:Bo ((w.alloc (.cells #[.bool s,.slice A n c] 27)).alloc (.cells #[.bool false,.slice none 0 0,.int .i64 0] 124)) (w.heap.size+1) #[.bool false,.slice none 0 0,.int .i64 0] 124:=Bo.newAt _ (by simp) _ _
 have HB:=Lib.hid (bel2 w (.cells #[.bool s,.slice A n c] 27) (.cells #[.bool false,.slice none 0 0,.int .i64 0] 124));replace hT:=hT.below HB.out;replace hrd:=hrd.below HB.out;refine(dWithin hc).mono ?_;rintro ee w1 ⟨rfl,B⟩;replace X2:=X2.b B;replace XR:=XR.b B;replace hT:=hT.b B;replace hrd:=hrd.b B;replace HB:=Lib.hid (bt HB.out B);clear B;have x0:=X2.cell0
 have x1:=X2.cell1
 go_wp2_with fail
 refine(wSign (h.below HB.out) hsz).mono ?_;rintro ee w2 ⟨rfl,B⟩;clear x0 x1;replace X2:=X2.b B;replace XR:=XR.b B;replace hT:=hT.b B;replace hrd:=hrd.b B;replace HB:=Lib.hid (bt HB.out B);clear B h;have x0:=X2.cell0;have x1:=X2.cell1
 go_wp2_with fail
 refine(dTrailing hT hrd ha (congrArg _ HM.out)).mono ?_;rintro ee w3 ⟨rfl,B⟩;clear x0 x1;replace X2:=X2.b B;replace XR:=XR.b B;replace hrd:=hrd.b B;replace HB:=Lib.hid (bt HB.out B);clear B;have hw:=HW.out
 by_cases hE:inE (e+m)=true
 ·have hE2:e+m<=4194304:=by
   have: -4194304<=e+m/\e+m<=4194304:=by simpa [inE]using hE
   exact this.2
  go_wp2_with fail
  refine(dWithin hE).mono ?_;rintro ee w4 ⟨rfl,B⟩;replace X2:=X2.b B;replace XR:=XR.b B;replace hrd:=hrd.b B;replace HB:=Lib.hid (bt HB.out B);clear B
  have HNE:Hid (sg s (z.natAbs/2^m)=N/\s=decide (N < 0)):=Lib.hid (by
   obtain⟨e1,e2,e3,e4,e5⟩:=mk_in (z:=z) (e:=e) h0 hi1 (by rw[HM.out];exact hE2);rw[HN.out]at e2 e3 e4;rw[HM.out]at e2
   have hs:s=decide (z < 0):=by
    rw[<-hsg,sg_lt]
    have:decide (0 < z.natAbs)=true:=decide_eq_true (by omega)
    rw[this,Bool.and_true]
   refine⟨?_,by rw[hs,decide_eq_decide];exact e3.symm⟩
   rw[<-e2,hs]
   by_cases hz:z < 0
   ·have:=e3.2 hz
    simp[sg,hz];omega
   ·have:¬N < 0:=fun h=>hz (e3.1 h)
    simp[sg,hz];omega)
  have hEE:E=e+m:=by
   rw[<-HE.out,(mk_in (z:=z) (e:=e) h0 hi1 (by rw[HM.out];exact hE2)).1,HM.out]
  subst hEE
  have d2:w.heap.size≠w.heap.size+1:=by omega
  have hdiv:z.natAbs/2^m=(z.natAbs/2^m):=rfl
  go_wp2
  go_region_held3 (fun w'=>w'.cell? ⟨w.heap.size,0,none⟩=some (.bool s)/\w'.cell? ⟨w.heap.size,1,none⟩=some (.slice A n c)) (first | with_reducible exact⟨X2.cell0,X2.cell1⟩ | with_reducible exact⟨X2.drew.cell0,X2.drew.cell1⟩ | with_reducible exact⟨(X2.far3 d2 _ _ _).cell0,(X2.far3 d2 _ _ _).cell1⟩)
   (first
    | (go_at_call 249;((with_reducible refine(vShrN hrd.drew (by clear hw;omega) rfl).mono ?_);rintro ee w5 ⟨A5,n5,c5,rfl,p5,k5,B5⟩;replace X2:=X2.drew.below B5;replace XR:=XR.drew.below B5;replace HB:=Lib.hid (bt HB.out.drew B5);clear B5;have r0:=XR.c0;have r1:=XR.c1;have r2:=XR.c2;have q0:=XR.frozen 0;have q1:=XR.frozen 1;have q2:=XR.frozen 2)))
  clear hw;go_wp2
  have hwn:Wn w5 s A5 n5 c5 N:=by
   refine⟨?_,HNE.out.2⟩;rw[<-HNE.out.1,sg_natAbs];exact p5
  exact bodyPost_ret (v:= .agg #[.bool s,.slice A5 n5 c5,.int .i64 (e+m)]) (by simp[results,Tryz.results246,go_sem,r0,r1,r2]) rfl ⟨s,A5,n5,c5,rfl,hwn.st3 XR _ _ _ _ _ (by simp[no32]),k5,st3 HB.out (by omega) _ _ _⟩
 ·have hE2:inE (e+m)=false:=by simpa using hE
  have e3:=mk_over (z:=z) (e:=e) (by
   rw[HM.out]
   have:¬(-4194304<=e+m/\e+m<=4194304):=by simpa [inE]using hE
   omega)
  have hN0:N=0:=by rw[<-HN.out,e3]
  have hE0:E=0:=by rw[<-HE.out,e3]
  subst hN0;subst hE0;clear e3
  go_wp2_with fail
  refine(dWithin hE2).mono ?_;rintro ee w4 ⟨rfl,B⟩;replace XR:=XR.b B;replace HB:=Lib.hid (bt HB.out B);clear B;have r0:=XR.c0;have r1:=XR.c1;have r2:=XR.c2;have q0:=XR.frozen 0;have q1:=XR.frozen 1;have q2:=XR.frozen 2;go_wp2;exact bodyPost_ret (v:= .agg #[.bool false,.slice none 0 0,.int .i64 0]) (by simp[results,Tryz.results246,go_sem,r0,r1,r2]) rfl ⟨false,none,0,0,rfl,Wn.zero.st3 XR _ _ _ _ _ (by simp[no32]),Nat.zero_le _,st3 HB.out (by omega) _ _ _⟩
theorem dMake{w:World}{s:Bool}{A:Option Addr}{n c:Nat}{z e N E:Int}(hT:Tab w)(h:Wr w s A n c z)(hn:n<=100000)(hN:(mk z e).1=N)(hE:(mk z e).2=E):
  Calls Tryz.prog 246 #[.agg #[.bool s,.slice A n c],.int .i64 e] w (D1 w n N E):=by
 by_cases hc:inE e=true
 ·by_cases h0:z=0
  ·subst h0;rw[mk_zero]at hN hE;subst hN;subst hE;exact dmake_zero h hc
  ·exact dmake_in hT h hn h0 hc (Lib.hid hN) (Lib.hid hE)
 ·have hm:mk z e=(0,0):=by
   have:¬(-4194304<=e/\e<=4194304):=by simpa [inE]using hc
   by_cases h1:e < -4194304
   ·exact mk_low h1
   ·exact mk_high (by omega)
  rw[hm]at hN hE;subst hN;subst hE;exact dmake_out h (by simpa using hc)
theorem dMay_zero{w:World}{A:Option Addr}{c a:Nat}{s:Bool}{e:Int}(h:Rd w A 0 c a):Calls Tryz.prog 267 #[.agg #[.bool s,.slice A 0 c,.int .i64 e]] w (PB w (mayB s 0 a && (e==0))):=by
 obtain⟨μ,hμ⟩:∃t,mayB s 0 a=t:=⟨_,rfl⟩;have HM:=Lib.hid hμ;rw[hμ];clear hμ
 cases μ
 ·go_enter Tryz.func267,Tryz.ntmps267
  go_wp2_with (first
   | (go_at_call 272;((with_reducible refine(wMay (h.below (bel1 _ _)) HM.out).mono ?_);rintro ee w1 ⟨rfl,B1⟩;obtain⟨hc,hf⟩:=bcell B1)))
  go_ret
  exact⟨rfl,bt (bel1 _ _) B1⟩
 ·go_enter Tryz.func267,Tryz.ntmps267
  go_wp2_with (first
   | (go_at_call 272;((with_reducible refine(wMay (h.below (bel1 _ _)) HM.out).mono ?_);rintro ee w1 ⟨rfl,B1⟩;obtain⟨hc,hf⟩:=bcell B1)))
  go_ret
  exact⟨rfl,bt (bel1 _ _) B1⟩
theorem dMay_pos{w:World}{A:Option Addr}{n c a:Nat}{s:Bool}{e:Int}(h:Rd w A n c a)(hn:0 < n):Calls Tryz.prog 267 #[.agg #[.bool s,.slice A n c,.int .i64 e]] w (PB w (mayB s n a && ((((a%4294967296:Nat):Int)%2==1) && (decide (-4194304<=e) && decide (e<=4194304))))):=by
 obtain⟨μ,hμ⟩:∃t,mayB s n a=t:=⟨_,rfl⟩;have HM:=Lib.hid hμ;rw[hμ];have hbig:=h.big
 have hq:((n:Int)==0)=false:=by
  have:(n:Int)≠0:=by omega
  simpa using this
 obtain⟨b,xs,hs,hv⟩:=id h;have hcap:=hs.cap;have hlt:=hs.lt hn;obtain⟨o,rfl,hcell⟩:=hs.at hn;have hck:=hcell 0 hn
 have hx:xs.getD 0 0=a%4294967296:=by
  have hl:=hs.len
  match xs,hl with
  | [],hl=>exfalso;simp at hl;omega
  | y::ys,_=>
   have:=hs.lim.head
   rw[<-hv,val_cons]
   simp
   omega
 rw[hx,Nat.add_zero]at hck
 have hm32:a%4294967296 < 4294967296:=Nat.mod_lt _ (by decide)
 clear hcell hμ hx hv hs
 revert hck hm32
 generalize a%4294967296=y
 intro hck hm32
 have hne:b≠w.heap.size:=by omega
 have hbl:b < (w.alloc (.cells #[.bool s,.slice (some ⟨b,o,none⟩) n c,.int .i64 e] 124)).heap.size:=by simp;omega
 have hodd:(y:Int)%2=0\/(y:Int)%2=1:=by omega
 have hand:bits BinOp.and IntKind.u32 (y:Int) 1=(y:Int)%2:=by
  have:=u32_and_nat y 1 hm32 (by decide)
  rw[Nat.and_one_is_mod]at this
  simpa using this
 cases μ
 ·go_enter Tryz.func267,Tryz.ntmps267
  go_wp2_with (first
   | (go_at_call 272;((with_reducible refine(wMay (h.below (bel1 _ _)) HM.out).mono ?_);rintro ee w1 ⟨rfl,B1⟩;obtain⟨hc,hf⟩:=bcell B1)))
  go_ret
  exact⟨rfl,bt (bel1 _ _) B1⟩
 ·rcases hodd with ho | ho
  ·have hoo:((y:Int)%2==1)=false:=by rw[ho];rfl
   rw[ho]at hand;clear ho;rw[hoo];clear hoo
   go_enter Tryz.func267,Tryz.ntmps267
   go_wp2_with (first
    | (go_at_call 272;((with_reducible refine(wMay (h.below (bel1 _ _)) HM.out).mono ?_);rintro ee w1 ⟨rfl,B1⟩;obtain⟨hc,hf⟩:=bcell B1)))
   go_ret
   exact⟨rfl,bt (bel1 _ _) B1⟩
  ·have hoo:((y:Int)%2==1)=true:=by rw[ho];rfl
   rw[ho]at hand;clear ho;rw[hoo];clear hoo;obtain⟨i,hi⟩:∃i,inE e=i:=⟨_,rfl⟩
   have hie:(decide (-4194304<=e) && decide (e<=4194304))=i:=hi
   rw[hie];clear hie
   go_enter Tryz.func267,Tryz.ntmps267
   go_wp2_with (first
    | (go_at_call 272;((with_reducible refine(wMay (h.below (bel1 _ _)) HM.out).mono ?_);rintro ee w1 ⟨rfl,B1⟩;obtain⟨hc,hf⟩:=bcell B1))
    | (go_at_call 265;((with_reducible refine(dWithin hi).mono ?_);rintro ee w2 ⟨rfl,B2⟩)))
   go_ret
   exact⟨rfl,bt (bel1 _ _) (bt B1 B2)⟩
theorem dMay{w:World}{A:Option Addr}{n c a:Nat}{s:Bool}{e:Int}{r:Bool}(h:Rd w A n c a)(hr:mayD s n a e=r):Calls Tryz.prog 267 #[.agg #[.bool s,.slice A n c,.int .i64 e]] w (PB w r):=by
 subst hr
 unfold mayD
 rcases Nat.eq_zero_or_pos n with e0 | e0
 ·subst e0
  simpa using dMay_zero (e:=e) h
 ·rw[if_neg (by omega)];exact dMay_pos h e0
theorem mayD_true{w:World}{s:Bool}{A:Option Addr}{n c:Nat}{z e:Int}(h:Wr w s A n c z)(hm:mayD s n z.natAbs e=true):Wn w s A n c z/\mk z e=(z,e):=by
 have hsg:=h.eq;obtain⟨b,xs,hs,hv⟩:=h.rd
 unfold mayD mayB at hm
 simp only[Bool.and_eq_true,decide_eq_true_eq,Bool.or_eq_true,Bool.not_eq_true']at hm;obtain⟨⟨hl,hs1⟩,he⟩:=hm
 have hx:xs=limbs z.natAbs:=by
  have h1:=limbs_prefix hs.lim;rw[hv,hl,List.take_of_length_le (by rw[hs.len];omega)]at h1;exact h1
 have hN:Nm w A n c z.natAbs:=⟨b,hx▸hs⟩
 rcases Nat.eq_zero_or_pos n with e0 | e0
 ·have hz:z.natAbs=0:=by have:=hN.pos;omega
  obtain rfl:z=0:=by omega
  rw[if_pos e0]at he
  obtain rfl:e=0:=by simpa using he
  have:s=false:=by
   rcases hs1 with h1 | h1
   ·omega
   ·exact h1
  subst this;exact⟨⟨hN,rfl⟩,mk_zero 0⟩
 ·rw[if_neg (by omega)]at he;simp only[Bool.and_eq_true,beq_iff_eq,decide_eq_true_eq]at he;obtain⟨ho,h1,h2⟩:=he
  have hz:z.natAbs≠0:=by have:=hN.pos;omega
  have hodd:z.natAbs%2=1:=by omega
  refine⟨⟨hN,?_⟩,?_⟩
  ·have:=sg_lt s z.natAbs
   rw[hsg]at this;rw[this,decide_eq_true (by omega:0 < z.natAbs),Bool.and_true]
  ·have hv2:=v2_odd hodd;obtain⟨e1,e2,e3,e4,e5⟩:=mk_in (z:=z) (e:=e) (by omega) h1 (by rw[hv2];simpa using h2);rw[hv2]at e1 e5
   apply Prod.ext
   ·simpa using e5.symm
   ·simpa using e1
theorem dTaken{w:World}{s:Bool}{A:Option Addr}{n c:Nat}{z e N E:Int}(hT:Tab w)(h:Wr w s A n c z)(hn:n<=100000)(hN:(mk z e).1=N)(hE:(mk z e).2=E):
  Calls Tryz.prog 247 #[.agg #[.bool s,.slice A n c,.int .i64 e]] w (D1 w n N E):=by
 have HN:=Lib.hid hN;have HE:=Lib.hid hE;clear hN hE;have hrd:=h.rd
 by_cases hm:mayD s n z.natAbs e=true
 ·obtain⟨hw,hmk⟩:=mayD_true h hm;have e1:=HN.out;have e2:=HE.out;rw[hmk]at e1 e2;simp only at e1 e2;subst e1;subst e2;clear hmk
  go_enter Tryz.func247,Tryz.ntmps247
  go_wp2_with fail
  obtain⟨X1,XR,B0⟩:=dbox2 w s A n c e rfl;refine(dMay (hrd.below B0) hm).mono ?_;rintro ee w1 ⟨rfl,B⟩;replace X1:=X1.b B;replace XR:=XR.b B;replace hw:=hw.below (bt B0 B);have HB:=Lib.hid (bt B0 B);clear B B0 h hrd;have x0:=X1.c0;have x1:=X1.c1;have x2:=X1.c2;have r0:=XR.c0;have r1:=XR.c1;have r2:=XR.c2;have q0:=XR.frozen 0;have q1:=XR.frozen 1
  have q2:=XR.frozen 2;go_wp2;exact bodyPost_ret (v:= .agg #[.bool s,.slice A n c,.int .i64 e]) (by simp[results,Tryz.results247,go_sem,r0,r1,r2]) rfl ⟨s,A,n,c,rfl,hw.st3 XR _ _ _ _ _ (by simp[no32]),Nat.le_refl _,st3 HB.out (by omega) _ _ _⟩
 ·go_enter Tryz.func247,Tryz.ntmps247
  go_wp2_with fail
  obtain⟨X1,XR,B0⟩:=dbox2 w s A n c e rfl;refine(dMay (hrd.below B0) (Bool.eq_false_iff.2 hm)).mono ?_;rintro ee w1 ⟨rfl,B⟩;replace X1:=X1.b B;replace XR:=XR.b B;replace h:=h.below (bt B0 B);replace hT:=hT.below (bt B0 B);have HB:=Lib.hid (bt B0 B);clear B B0 hrd;have x0:=X1.c0;have x1:=X1.c1;have x2:=X1.c2
  go_wp2_with fail
  refine(dMake hT h hn HN.out HE.out).mono ?_;rintro ee w2 ⟨s2,A2,n2,c2,rfl,h2,k2,B⟩;clear x0 x1 x2;replace XR:=XR.b B;replace HB:=Lib.hid (bt HB.out B);clear B;have r0:=XR.c0;have r1:=XR.c1;have r2:=XR.c2;have q0:=XR.frozen 0;have q1:=XR.frozen 1;have q2:=XR.frozen 2;go_wp2;exact bodyPost_ret (v:= .agg #[.bool s2,.slice A2 n2 c2,.int .i64 E]) (by simp[results,Tryz.results247,go_sem,r0,r1,r2]) rfl ⟨s2,A2,n2,c2,rfl,h2.st3 XR _ _ _ _ _ (by simp[no32]),k2,st3 HB.out (by omega) _ _ _⟩
def Jo.Fact.wn (z:Int)(K:Nat):Jo.Fact:=⟨fun v w=>∃s A n c,v= .agg #[.bool s,.slice A n c]/\Wn w s A n c z/\n<=K,fun v w w' h b=>by
 obtain⟨s,A,n,c,e,h,k⟩:=h
 exact⟨s,A,n,c,e,h.below b,k⟩⟩
def Jo.Fact.nm (a K:Nat):Jo.Fact:=⟨fun v w=>∃A n c,v= .slice A n c/\Nm w A n c a/\n<=K,fun v w w' h b=>by
 obtain⟨A,n,c,e,h,k⟩:=h
 exact⟨A,n,c,e,h.below b,k⟩⟩
def Jo.Fact.dy (N E:Int)(K:Nat):Jo.Fact:=⟨fun v w=>∃s A n c,v= .agg #[.bool s,.slice A n c,.int .i64 E]/\Wn w s A n c N/\n<=K,fun v w w' h b=>by
 obtain⟨s,A,n,c,e,h,k⟩:=h
 exact⟨s,A,n,c,e,h.below b,k⟩⟩
def Jo.Fact.wl (K n:Nat)(zs:List Int):Jo.Fact:=⟨fun v w=>∃A c,v= .slice A n c/\Wl w A n c K zs,fun v w w' h b=>by
 obtain⟨A,c,e,h⟩:=h
 exact⟨A,c,e,h.below b⟩⟩
theorem Bo.at{w:World}{g:Nat}{cs:Array Value}{T:TypeId}(h:Bo w g cs T){i:Nat}{v:Value}(e:cs[i]?=some v):w.cell? ⟨g,i,none⟩=some v:=(h.cell i).trans e
def no8 (v:Value):Bool:=match v with
 | .int .u8 _=>false
 | _=>true
def StN (w w':World)(g:Nat)(old new:Array Value)(T:TypeId):Prop:=
 Bo w g old T/\Bo w' g new T/\(∀k,k≠g->w'.heap[k]?=w.heap[k]?)/\∀B a,B<=g->Below B a w->Below B a w'
section
variable {w w':World} {g:Nat} {old new:Array Value} {T:TypeId}
theorem StN.box (S:StN w w' g old new T):Bo w' g new T:=S.2.1
theorem StN.mk3{a b c:Value}(X:Bo w g #[a,b,c] T)(u v t:Value):StN w (((w.setCell ⟨g,0,none⟩ u).setCell ⟨g,1,none⟩ v).setCell ⟨g,2,none⟩ t) g #[a,b,c] #[u,v,t] T:=
 ⟨X,by simpa using ((X.set 0 u).set 1 v).set 2 t,fun k hk=>by rw[Below.heap_setCell _ _ _ _ hk,Below.heap_setCell _ _ _ _ hk,Below.heap_setCell _ _ _ _ hk],fun B a hg h=>st3 h hg u v t⟩
theorem StN.mk2{a b:Value}(X:Bo w g #[a,b] T)(u v:Value):StN w ((w.setCell ⟨g,0,none⟩ u).setCell ⟨g,1,none⟩ v) g #[a,b] #[u,v] T:=
 ⟨X,by simpa using (X.set 0 u).set 1 v,fun k hk=>by rw[Below.heap_setCell _ _ _ _ hk,Below.heap_setCell _ _ _ _ hk],fun B a hg h=>st2 h hg u v⟩
theorem StN.below (S:StN w w' g old new T){B:Nat}{a:World}(h:Below B a w)(hg:B<=g):Below B a w':=S.2.2.2 B a hg h
theorem Bo.stn{k:Nat}{cs:Array Value}{R:TypeId}(X:Bo w k cs R)(S:StN w w' g old new T)(h:k≠g):Bo w' k cs R:=X.keep (S.2.2.1 k h)
theorem sl_stn{b:Nat}{B:Option Addr}{m d:Nat}{xs:List Nat}(h:Sl w b B m d xs)(S:StN w w' g old new T)(hn:old.all no32=true):Sl w' b B m d xs:=
 h.keep fun hm=>S.2.2.1 _ (fun e=>by
  obtain⟨o,_,hc⟩:=h.at hm
  have:=hc 0 hm
  rw[e]at this
  exact S.1.no hn this)
theorem Nm.stn{B:Option Addr}{m d a:Nat}(h:Nm w B m d a)(S:StN w w' g old new T)(hn:old.all no32=true):Nm w' B m d a:=by
 obtain⟨b,h⟩:=h
 exact⟨b,sl_stn h S hn⟩
theorem Rd.stn{B:Option Addr}{m d a:Nat}(h:Rd w B m d a)(S:StN w w' g old new T)(hn:old.all no32=true):Rd w' B m d a:=by
 obtain⟨b,xs,h,e⟩:=h
 exact⟨b,xs,sl_stn h S hn,e⟩
theorem Wn.stn{s:Bool}{B:Option Addr}{m d:Nat}{z:Int}(h:Wn w s B m d z)(S:StN w w' g old new T)(hn:old.all no32=true):Wn w' s B m d z:=⟨h.1.stn S hn,h.2⟩
theorem Wr.stn{s:Bool}{B:Option Addr}{m d:Nat}{z:Int}(h:Wr w s B m d z)(S:StN w w' g old new T)(hn:old.all no32=true):Wr w' s B m d z:=by
 obtain⟨a,h,e⟩:=h
 exact⟨a,h.stn S hn,e⟩
theorem Tab.stn (h:Tab w)(S:StN w w' g old new T)(hn:old.all no8=true):Tab w':=h.keep (S.2.2.1 _ (fun e=>by
 have h0:=h 0 (by decide)
 subst e
 rw[S.1.cell]at h0
 rw[Array.all_eq_true]at hn
 obtain⟨hlt,he⟩:=Array.getElem?_eq_some_iff.1 h0
 have:=hn 0 hlt
 rw[he]at this
 cases this))
end
theorem vShlZ{w:World}{A1:Option Addr}{n c1 a:Nat}{z:Int}{r:Nat}(h1:Rd w A1 n c1 a)(hn:n<=1073741824)(hz0:0<=z)(hz:z<=16777216)(hr:a*2^z.toNat=r):Calls Tryz.prog 119 #[.slice A1 n c1,.int .i64 z] w (P1 w (n+z.toNat/32+1) r):=by
 subst hr
 obtain⟨k,rfl⟩:=Int.eq_ofNat_of_zero_le hz0
 have:=vShl k h1 hn (by omega)
 simpa using this
theorem sg_times{w:World}{s:Bool}{A:Option Addr}{n c:Nat}{N:Int}{p m:Nat}{B:Option Addr}{d:Nat}{w':World}(h:Wn w s A n c N)(hp:0 < p)(k:Nm w' B m d (N.natAbs*p)):Wn w' s B m d (N*(p:Int)):=by
 refine⟨by rwa [Int.natAbs_mul,Int.natAbs_natCast],?_⟩
 rw[h.2,decide_eq_decide]
 constructor
 ·intro hh;exact Int.mul_neg_of_neg_of_pos hh (by omega)
 ·intro hh
  by_cases e:N < 0
  ·exact e
  ·exact absurd hh (Int.not_lt.2 (Int.mul_nonneg (by omega) (by omega)))
theorem Bo.a{w:World}{g:Nat}{cs:Array Value}{T:TypeId}(h:Bo w g cs T)(i:Nat)(v:Value)(e:cs[i]?=some v):w.cell? ⟨g,i,none⟩=some v:=h.at e
theorem Bo.ce2{w:World}{g:Nat}{cs:Array Value}{T:TypeId}(h:Bo w g cs T){v0 v1:Value}(e0:cs[0]?=some v0)(e1:cs[1]?=some v1):w.cell? ⟨g,0,none⟩=some v0/\w.cell? ⟨g,1,none⟩=some v1:=⟨h.at e0,h.at e1⟩
theorem Bo.ce3{w:World}{g:Nat}{cs:Array Value}{T:TypeId}(h:Bo w g cs T){v0 v1 v2:Value}(e0:cs[0]?=some v0)(e1:cs[1]?=some v1)(e2:cs[2]?=some v2):w.cell? ⟨g,0,none⟩=some v0/\w.cell? ⟨g,1,none⟩=some v1/\w.cell? ⟨g,2,none⟩=some v2:=⟨h.at e0,h.at e1,h.at e2⟩
theorem Bo.ce4{w:World}{g:Nat}{cs:Array Value}{T:TypeId}(h:Bo w g cs T){v0 v1 v2 v3:Value}(e0:cs[0]?=some v0)(e1:cs[1]?=some v1)(e2:cs[2]?=some v2)(e3:cs[3]?=some v3):w.cell? ⟨g,0,none⟩=some v0/\w.cell? ⟨g,1,none⟩=some v1/\w.cell? ⟨g,2,none⟩=some v2/\w.cell? ⟨g,3,none⟩=some v3:=⟨h.at e0,h.at e1,h.at e2,h.at e3⟩
theorem Bo.ce9{w:World}{g:Nat}{cs:Array Value}{T:TypeId}(h:Bo w g cs T){v0 v1 v2 v3 v4 v5 v6 v7 v8:Value}(e0:cs[0]?=some v0)(e1:cs[1]?=some v1)(e2:cs[2]?=some v2)(e3:cs[3]?=some v3)(e4:cs[4]?=some v4)(e5:cs[5]?=some v5)(e6:cs[6]?=some v6)(e7:cs[7]?=some v7)(e8:cs[8]?=some v8):w.cell? ⟨g,0,none⟩=some v0/\w.cell? ⟨g,1,none⟩=some v1/\w.cell? ⟨g,2,none⟩=some v2/\w.cell? ⟨g,3,none⟩=some v3/\w.cell? ⟨g,4,none⟩=some v4/\w.cell? ⟨g,5,none⟩=some v5/\w.cell? ⟨g,6,none⟩=some v6/\w.cell? ⟨g,7,none⟩=some v7/\w.cell? ⟨g,8,none⟩=some v8:=⟨h.at e0,h.at e1,h.at e2,h.at e3,h.at e4,h.at e5,h.at e6,h.at e7,h.at e8⟩
theorem Bo.en1{w w1:World}{c0:Array Value}{T0:TypeId}(h:w.alloc (.cells c0 T0)=w1):Bo w1 (w.heap.size) c0 T0/\RowKit.Hid (Below w.heap.size w w1):=h▸⟨(Bo.newAt (w) (g:=w.heap.size) (by simp) c0 T0),Lib.hid (bel1 w _)⟩
theorem Bo.en2{w w1:World}{c0:Array Value}{T0:TypeId}{c1:Array Value}{T1:TypeId}(h:(w.alloc (.cells c0 T0)).alloc (.cells c1 T1)=w1):Bo w1 (w.heap.size) c0 T0/\Bo w1 (w.heap.size+1) c1 T1/\RowKit.Hid (Below w.heap.size w w1):=h▸⟨(Bo.newAt (w) (g:=w.heap.size) (by simp) c0 T0).below (bel1 _ _),(Bo.newAt (w.alloc (.cells c0 T0)) (g:=w.heap.size+1) (by simp) c1 T1),Lib.hid (bel2 w _ _)⟩
theorem Bo.en3{w w1:World}{c0:Array Value}{T0:TypeId}{c1:Array Value}{T1:TypeId}{c2:Array Value}{T2:TypeId}(h:((w.alloc (.cells c0 T0)).alloc (.cells c1 T1)).alloc (.cells c2 T2)=w1):Bo w1 (w.heap.size) c0 T0/\Bo w1 (w.heap.size+1) c1 T1/\Bo w1 (w.heap.size+1+1) c2 T2/\RowKit.Hid (Below w.heap.size w w1):=h▸⟨(Bo.newAt (w) (g:=w.heap.size) (by simp) c0 T0).below (bel2 _ _ _),(Bo.newAt (w.alloc (.cells c0 T0)) (g:=w.heap.size+1) (by simp) c1 T1).below (bel1 _ _),(Bo.newAt ((w.alloc (.cells c0 T0)).alloc (.cells c1 T1)) (g:=w.heap.size+1+1) (by simp) c2 T2),Lib.hid (bel3 w _ _ _)⟩
theorem Bo.en4{w w1:World}{c0:Array Value}{T0:TypeId}{c1:Array Value}{T1:TypeId}{c2:Array Value}{T2:TypeId}{c3:Array Value}{T3:TypeId}(h:(((w.alloc (.cells c0 T0)).alloc (.cells c1 T1)).alloc (.cells c2 T2)).alloc (.cells c3 T3)=w1):Bo w1 (w.heap.size) c0 T0/\Bo w1 (w.heap.size+1) c1 T1/\Bo w1 (w.heap.size+1+1) c2 T2/\Bo w1 (w.heap.size+1+1+1) c3 T3/\RowKit.Hid (Below w.heap.size w w1):=h▸⟨(Bo.newAt (w) (g:=w.heap.size) (by simp) c0 T0).below (bel3 _ _ _ _),(Bo.newAt (w.alloc (.cells c0 T0)) (g:=w.heap.size+1) (by simp) c1 T1).below (bel2 _ _ _),(Bo.newAt ((w.alloc (.cells c0 T0)).alloc (.cells c1 T1)) (g:=w.heap.size+1+1) (by simp) c2 T2).below (bel1 _ _),(Bo.newAt (((w.alloc (.cells c0 T0)).alloc (.cells c1 T1)).alloc (.cells c2 T2)) (g:=w.heap.size+1+1+1) (by simp) c3 T3),Lib.hid (bel4 w _ _ _ _)⟩
theorem Bo.en5{w w1:World}{c0:Array Value}{T0:TypeId}{c1:Array Value}{T1:TypeId}{c2:Array Value}{T2:TypeId}{c3:Array Value}{T3:TypeId}{c4:Array Value}{T4:TypeId}(h:((((w.alloc (.cells c0 T0)).alloc (.cells c1 T1)).alloc (.cells c2 T2)).alloc (.cells c3 T3)).alloc (.cells c4 T4)=w1):Bo w1 (w.heap.size) c0 T0/\Bo w1 (w.heap.size+1) c1 T1/\Bo w1 (w.heap.size+1+1) c2 T2/\Bo w1 (w.heap.size+1+1+1) c3 T3/\Bo w1 (w.heap.size+1+1+1+1) c4 T4/\RowKit.Hid (Below w.heap.size w w1):=h▸⟨(Bo.newAt (w) (g:=w.heap.size) (by simp) c0 T0).below (bel4 _ _ _ _ _),(Bo.newAt (w.alloc (.cells c0 T0)) (g:=w.heap.size+1) (by simp) c1 T1).below (bel3 _ _ _ _),(Bo.newAt ((w.alloc (.cells c0 T0)).alloc (.cells c1 T1)) (g:=w.heap.size+1+1) (by simp) c2 T2).below (bel2 _ _ _),(Bo.newAt (((w.alloc (.cells c0 T0)).alloc (.cells c1 T1)).alloc (.cells c2 T2)) (g:=w.heap.size+1+1+1) (by simp) c3 T3).below (bel1 _ _),(Bo.newAt ((((w.alloc (.cells c0 T0)).alloc (.cells c1 T1)).alloc (.cells c2 T2)).alloc (.cells c3 T3)) (g:=w.heap.size+1+1+1+1) (by simp) c4 T4),Lib.hid (bel5 w _ _ _ _ _)⟩
theorem Bo.en6{w w1:World}{c0:Array Value}{T0:TypeId}{c1:Array Value}{T1:TypeId}{c2:Array Value}{T2:TypeId}{c3:Array Value}{T3:TypeId}{c4:Array Value}{T4:TypeId}{c5:Array Value}{T5:TypeId}(h:(((((w.alloc (.cells c0 T0)).alloc (.cells c1 T1)).alloc (.cells c2 T2)).alloc (.cells c3 T3)).alloc (.cells c4 T4)).alloc (.cells c5 T5)=w1):Bo w1 (w.heap.size) c0 T0/\Bo w1 (w.heap.size+1) c1 T1/\Bo w1 (w.heap.size+1+1) c2 T2/\Bo w1 (w.heap.size+1+1+1) c3 T3/\Bo w1 (w.heap.size+1+1+1+1) c4 T4/\Bo w1 (w.heap.size+1+1+1+1+1) c5 T5/\RowKit.Hid (Below w.heap.size w w1):=h▸⟨(Bo.newAt (w) (g:=w.heap.size) (by simp) c0 T0).below (bel5 _ _ _ _ _ _),(Bo.newAt (w.alloc (.cells c0 T0)) (g:=w.heap.size+1) (by simp) c1 T1).below (bel4 _ _ _ _ _),(Bo.newAt ((w.alloc (.cells c0 T0)).alloc (.cells c1 T1)) (g:=w.heap.size+1+1) (by simp) c2 T2).below (bel3 _ _ _ _),(Bo.newAt (((w.alloc (.cells c0 T0)).alloc (.cells c1 T1)).alloc (.cells c2 T2)) (g:=w.heap.size+1+1+1) (by simp) c3 T3).below (bel2 _ _ _),(Bo.newAt ((((w.alloc (.cells c0 T0)).alloc (.cells c1 T1)).alloc (.cells c2 T2)).alloc (.cells c3 T3)) (g:=w.heap.size+1+1+1+1) (by simp) c4 T4).below (bel1 _ _),(Bo.newAt (((((w.alloc (.cells c0 T0)).alloc (.cells c1 T1)).alloc (.cells c2 T2)).alloc (.cells c3 T3)).alloc (.cells c4 T4)) (g:=w.heap.size+1+1+1+1+1) (by simp) c5 T5),Lib.hid ((bel5 w _ _ _ _ _).alloc (by simp;omega) _)⟩
theorem Bo.nw{w w1:World}{c:Array Value}{T:TypeId}(h:w.alloc (.cells c T)=w1):Bo w1 w.heap.size c T/\Below w.heap.size w w1:=h▸⟨Bo.new w c T,bel1 w _⟩
theorem Bo.u2{w:World}{g:Nat}{T:TypeId}{v0 v1:Value}(h:Bo w g #[v0,v1] T):w.cell? ⟨g,0,none⟩=some v0/\w.cell? ⟨g,1,none⟩=some v1:=⟨h.at rfl,h.at rfl⟩
theorem Bo.u3{w:World}{g:Nat}{T:TypeId}{v0 v1 v2:Value}(h:Bo w g #[v0,v1,v2] T):w.cell? ⟨g,0,none⟩=some v0/\w.cell? ⟨g,1,none⟩=some v1/\w.cell? ⟨g,2,none⟩=some v2:=⟨h.at rfl,h.at rfl,h.at rfl⟩
theorem Bo.u4{w:World}{g:Nat}{T:TypeId}{v0 v1 v2 v3:Value}(h:Bo w g #[v0,v1,v2,v3] T):w.cell? ⟨g,0,none⟩=some v0/\w.cell? ⟨g,1,none⟩=some v1/\w.cell? ⟨g,2,none⟩=some v2/\w.cell? ⟨g,3,none⟩=some v3:=⟨h.at rfl,h.at rfl,h.at rfl,h.at rfl⟩
theorem Bo.u9{w:World}{g:Nat}{T:TypeId}{v0 v1 v2 v3 v4 v5 v6 v7 v8:Value}(h:Bo w g #[v0,v1,v2,v3,v4,v5,v6,v7,v8] T):w.cell? ⟨g,0,none⟩=some v0/\w.cell? ⟨g,1,none⟩=some v1/\w.cell? ⟨g,2,none⟩=some v2/\w.cell? ⟨g,3,none⟩=some v3/\w.cell? ⟨g,4,none⟩=some v4/\w.cell? ⟨g,5,none⟩=some v5/\w.cell? ⟨g,6,none⟩=some v6/\w.cell? ⟨g,7,none⟩=some v7/\w.cell? ⟨g,8,none⟩=some v8:=⟨h.at rfl,h.at rfl,h.at rfl,h.at rfl,h.at rfl,h.at rfl,h.at rfl,h.at rfl,h.at rfl⟩
theorem StN.of2{w w1:World}{g:Nat}{T:TypeId}{a0 a1 v0 v1:Value}(X:Bo w g #[a0,a1] T)(h:(w.setCell ⟨g,0,none⟩ v0).setCell ⟨g,1,none⟩ v1=w1):StN w w1 g #[a0,a1] #[v0,v1] T:=h▸StN.mk2 X v0 v1
theorem StN.of3{w w1:World}{g:Nat}{T:TypeId}{a0 a1 a2 v0 v1 v2:Value}(X:Bo w g #[a0,a1,a2] T)(h:((w.setCell ⟨g,0,none⟩ v0).setCell ⟨g,1,none⟩ v1).setCell ⟨g,2,none⟩ v2=w1):StN w w1 g #[a0,a1,a2] #[v0,v1,v2] T:=h▸StN.mk3 X v0 v1 v2
theorem Bo.w9{w:World}{g:Nat}{T:TypeId}{v0 v1 v2 v3 v4 v5 v6 v7 v8:Value}(h:Bo w g #[v0,v1,v2,v3,v4,v5,v6,v7,v8] T):w.cell? ⟨g,1,none⟩=some v1/\w.cell? ⟨g,2,none⟩=some v2/\w.cell? ⟨g,3,none⟩=some v3/\w.cell? ⟨g,4,none⟩=some v4:=⟨h.at rfl,h.at rfl,h.at rfl,h.at rfl⟩
theorem Bo.v9{w:World}{g:Nat}{T:TypeId}{v0 v1 v2 v3 v4 v5 v6 v7 v8:Value}(h:Bo w g #[v0,v1,v2,v3,v4,v5,v6,v7,v8] T):w.cell? ⟨g,5,none⟩=some v5/\w.cell? ⟨g,6,none⟩=some v6/\w.cell? ⟨g,7,none⟩=some v7/\w.cell? ⟨g,8,none⟩=some v8:=⟨h.at rfl,h.at rfl,h.at rfl,h.at rfl⟩
theorem Hqb{w w1 w2:World}(h:RowKit.Hid (Below w.heap.size w w1))(b:Below w1.heap.size w1 w2):RowKit.Hid (Below w.heap.size w w2):=Lib.hid (bt h.out b)
theorem Hqs{n g:Nat}{a w w':World}{o c:Array Value}{T:TypeId}(h:RowKit.Hid (Below n a w))(S:StN w w' g o c T)(hg:n<=g):RowKit.Hid (Below n a w'):=Lib.hid (S.below h.out hg)
abbrev LQ (m:Int):Prop:=m < 18446744073709551616
abbrev VQ (D:Int)(s:Bool)(M E:Int):Value:= .agg #[.int .i64 D,.bool s,.int .u64 M,.int .i64 E]
abbrev VI (e:Bool)(D:Int)(s:Bool)(M E:Int)(D':Int)(s':Bool)(M' E':Int):Value:= .agg #[.bool e,.int .i64 D,.bool s,.int .u64 M,.int .i64 E,.int .i64 D',.bool s',.int .u64 M',.int .i64 E']
open Go in
theorem Jo.w1{P:Program}{f:FuncId}{a:Array Value}{w:World}{Q:Ending->World->Prop}{R:Value->World->Prop}{K K':Nat}{z:Int}(h:Calls P f a w (W1 w K z))(hR:∀v w',(Jo.Fact.wn z K').P v w'->Jo.Grow w w'->R v w')(hk:K<=K':=by omega)(hQ:∀v w',R v w'->Q (.returned v) w':=by exact fun _ _ h=>h):Calls P f a w Q:=by
 refine h.mono ?_
 rintro e w' ⟨s,A,n,c,rfl,p,k,B⟩
 exact hQ _ _ (hR _ _ ⟨s,A,n,c,rfl,p,Nat.le_trans k hk⟩ B)
open Go in
theorem Jo.d1{P:Program}{f:FuncId}{a:Array Value}{w:World}{Q:Ending->World->Prop}{R:Value->World->Prop}{K K':Nat}{N E:Int}(h:Calls P f a w (D1 w K N E))(hR:∀v w',(Jo.Fact.dy N E K').P v w'->Jo.Grow w w'->R v w')(hk:K<=K':=by omega)(hQ:∀v w',R v w'->Q (.returned v) w':=by exact fun _ _ h=>h):Calls P f a w Q:=by
 refine h.mono ?_
 rintro e w' ⟨s,A,n,c,rfl,p,k,B⟩
 exact hQ _ _ (hR _ _ ⟨s,A,n,c,rfl,p,Nat.le_trans k hk⟩ B)
theorem Bo.s{w w':World}{g:Nat}{old new:Array Value}{T:TypeId}{k:Nat}{cs:Array Value}{R:TypeId}(X:Bo w k cs R)(S:StN w w' g old new T)(h:k≠g:=by omega):Bo w' k cs R:=X.stn S h
theorem Nm.s{w w':World}{g:Nat}{old new:Array Value}{T:TypeId}{B:Option Addr}{m d a:Nat}(h:Nm w B m d a)(S:StN w w' g old new T)(hn:old.all no32=true:=by simp[no32]):Nm w' B m d a:=h.stn S hn
theorem Rd.s{w w':World}{g:Nat}{old new:Array Value}{T:TypeId}{B:Option Addr}{m d a:Nat}(h:Rd w B m d a)(S:StN w w' g old new T)(hn:old.all no32=true:=by simp[no32]):Rd w' B m d a:=h.stn S hn
theorem Wn.s{w w':World}{g:Nat}{old new:Array Value}{T:TypeId}{s:Bool}{B:Option Addr}{m d:Nat}{z:Int}(h:Wn w s B m d z)(S:StN w w' g old new T)(hn:old.all no32=true:=by simp[no32]):Wn w' s B m d z:=h.stn S hn
theorem Wr.s{w w':World}{g:Nat}{old new:Array Value}{T:TypeId}{s:Bool}{B:Option Addr}{m d:Nat}{z:Int}(h:Wr w s B m d z)(S:StN w w' g old new T)(hn:old.all no32=true:=by simp[no32]):Wr w' s B m d z:=h.stn S hn
theorem Tab.s{w w':World}{g:Nat}{old new:Array Value}{T:TypeId}(h:Tab w)(S:StN w w' g old new T)(hn:old.all no8=true:=by simp[no8]):Tab w':=h.stn S hn
theorem ie{p:Prop}(h:p):Hid p:=Lib.hid h
theorem dt{p:Prop} [Decidable p](h:p):decide p=true:=decide_eq_true h
theorem df{p:Prop} [Decidable p](h:¬p):decide p=false:=decide_eq_false h
abbrev bq:= @bodyPost_ret
abbrev jo:= @Jo.Steps.nil
theorem iw (z:Int)(h: -9223372036854775808<=z/\z<=9223372036854775807:=by omega):Hid (IntKind.i64.wrap z=z):=Lib.hid (IntWalk.i64_in z h)
theorem jw (z:Int)(h: -9223372036854775808<=z/\z<=9223372036854775807:=by omega):Hid (wrap64 z=z):=Lib.hid (IntWalk.wrap64_in z h)
theorem StN.t2{w:World}{g:Nat}{T:TypeId}{a b:Value}(X:Bo w g #[a,b] T)(s:Bool)(A:Option Addr)(n c:Nat):StN w ((w.setCell ⟨g,0,none⟩ (.bool s)).setCell ⟨g,1,none⟩ (.slice A n c)) g #[a,b] #[.bool s,.slice A n c] T:=StN.mk2 X _ _
end Go.Proofs.YtomikokonmikgaaGreatDoor
namespace Go.Proofs.YtomikokonmikgaaGreatDoor
open Go.RowKit
set_option linter.unusedVariables false
theorem flr_neg{N E:Int}(hE:E < 0)(ho:N.natAbs%2=1)(hN:N < 0):flr N E= -((N.natAbs/2^(-E).toNat+1:Nat):Int):=by
 unfold flr
 rw[if_neg (by omega)];obtain⟨k,hk⟩:∃k,(-E).toNat=k+1:=⟨(-E).toNat-1,by omega⟩
 rw[hk]
 have hp:0 < 2^(k+1):=Nat.pow_pos (by decide)
 have hd:=Nat.div_add_mod N.natAbs (2^(k+1))
 have hm:N.natAbs%2^(k+1)≠0:=by
  intro e
  rw[e,Nat.pow_succ,Nat.add_zero]at hd
  have:N.natAbs%2=0:=by rw[<-hd,Nat.mul_comm _ 2,Nat.mul_assoc];exact Nat.mul_mod_right _ _
  omega
 have hlt:=Nat.mod_lt N.natAbs hp
 revert hd hm hlt
 generalize N.natAbs%2^(k+1)=r;generalize N.natAbs/2^(k+1)=q;generalize 2^(k+1)=P at *
 intro hd hm hlt
 have e1:N= -((P:Int)*q)-r:=by
  have:((P*q+r:Nat):Int)=(N.natAbs:Int):=by rw[hd]
  rw[Int.natCast_add,Int.natCast_mul]at this
  omega
 have:=(div_un (x:=N) (y:=(P:Int)) (q:= -((q+1:Nat):Int)) (r:=(P:Int)-r) (by omega) (by
  rw[e1,Int.natCast_add,Int.mul_neg,Int.mul_add]
  omega) (fun _=>by omega) (fun h=>by omega)).1
 exact this.symm
theorem flr_pos{N E:Int}(hE:E < 0)(hN:0<=N):flr N E=((N.natAbs/2^(-E).toNat:Nat):Int):=by
 unfold flr
 rw[if_neg (by omega)]
 have hN2:N=(N.natAbs:Int):=by omega
 generalize (-E).toNat=k;rw[hN2,Int.natAbs_natCast];generalize N.natAbs=a;rw[Int.fdiv_eq_ediv_of_nonneg _ (Int.natCast_nonneg _)]
 rfl
def Dl (w:World)(A:Option Addr)(n c K:Nat)(l:List (Int × Int)):Prop:=
 l.length=n/\n<=c/\n<=1099511627776/\(0 < n->∃b o,A=some ⟨b,o,none⟩/\∀k,k < n->∃s B m d,w.cell? ⟨b,o+k*3,none⟩=some (.bool s)/\w.cell? ⟨b,o+k*3+1,none⟩=some (.slice B m d)/\w.cell? ⟨b,o+k*3+2,none⟩=some (.int .i64 (l.getD k (0,0)).2)/\Wr w s B m d (l.getD k (0,0)).1/\m<=K)
theorem Dl.below{w w':World}{A:Option Addr}{n c K:Nat}{l:List (Int × Int)}(h:Dl w A n c K l)(hb:Below w.heap.size w w'):Dl w' A n c K l:=by
 obtain⟨h1,h2,h3,h4⟩:=h
 refine⟨h1,h2,h3,fun hn=>?_⟩
 obtain⟨b,o,e,hc⟩:=h4 hn
 refine⟨b,o,e,fun k hk=>?_⟩
 obtain⟨s,B,m,d,c0,c1,c2,hw,hm⟩:=hc k hk;exact⟨s,B,m,d,(hb.cell (p:=⟨b,_,none⟩) (block_lt_of_cell c0)).trans c0,(hb.cell (p:=⟨b,_,none⟩) (block_lt_of_cell c1)).trans c1,(hb.cell (p:=⟨b,_,none⟩) (block_lt_of_cell c2)).trans c2,hw.below hb,hm⟩
abbrev Dl.b:= @Dl.below
def TP:Int:=19342822337206103650074625
theorem TP_eq:TP=19342822337206103650074625:=rfl
def MayQ (K:Int)(s:Bool)(M E:Int):Prop:=(K=0/\s=false/\M=0/\E=0)\/(K=1/\9223372036854775808<=M/\ -1048576<=E/\E<=1048576)\/(K=2/\M=0/\E=0)
instance (K:Int) (s:Bool) (M E:Int):Decidable (MayQ K s M E):=by unfold MayQ;infer_instance
def plc (K M E:Int):Int:=if K=0 then 0 else if K=1 then M-9223372036854775808+1+(E+1048576)*9223372036854775808 else TP
def sgi (s:Bool)(x:Int):Int:=if s=true then -x else x
def rk (K:Int)(s:Bool)(M E:Int):Int:=if MayQ K s M E then sgi s (plc K M E)else 0
def Fq (K:Int)(s:Bool)(M E r:Int):Prop:=MayQ K s M E/\M < 18446744073709551616/\sgi s (plc K M E)=r
theorem Fq.cases{K:Int}{s:Bool}{M E r:Int}(h:Fq K s M E r):(K=0/\s=false/\M=0/\E=0/\r=0)\/(K=1/\9223372036854775808<=M/\M < 18446744073709551616/\ -1048576<=E/\E<=1048576/\((s=false/\r=M-9223372036854775808+1+(E+1048576)*9223372036854775808)\/(s=true/\ -r=M-9223372036854775808+1+(E+1048576)*9223372036854775808)))
  \/(K=2/\M=0/\E=0/\((s=false/\r=19342822337206103650074625)\/(s=true/\r= -19342822337206103650074625))):=by
 obtain⟨h1,h2,h3⟩:=h
 rcases h1 with⟨rfl,rfl,rfl,rfl⟩ | ⟨rfl,h4,h5,h6⟩ | ⟨rfl,rfl,rfl⟩
 ·left
  exact⟨rfl,rfl,rfl,rfl,by rw[<-h3];rfl⟩
 ·right;left
  refine⟨rfl,h4,h2,h5,h6,?_⟩
  cases s
  ·left
   exact⟨rfl,h3.symm⟩
  ·right
   have h3': -(M-9223372036854775808+1+(E+1048576)*9223372036854775808)=r:=h3
   exact⟨rfl,by rw[<-h3',Int.neg_neg]⟩
 ·right;right
  refine⟨rfl,rfl,rfl,?_⟩
  cases s
  ·left
   exact⟨rfl,h3.symm⟩
  ·right
   exact⟨rfl,h3.symm⟩
theorem Fq.fin{s:Bool}{M E r:Int}(h1:9223372036854775808<=M)(h2:M < 18446744073709551616)(h3: -1048576<=E)(h4:E<=1048576)(hr:sgi s (M-9223372036854775808+1+(E+1048576)*9223372036854775808)=r):Fq 1 s M E r:=
 ⟨Or.inr (Or.inl ⟨rfl,h1,h3,h4⟩),h2,hr⟩
theorem Fq.nought:Fq 0 false 0 0 0:=⟨Or.inl ⟨rfl,rfl,rfl,rfl⟩,by decide,rfl⟩
theorem Fq.inf (s:Bool):Fq 2 s 0 0 (sgi s TP):=⟨Or.inr (Or.inr ⟨rfl,rfl,rfl⟩),by decide,rfl⟩
theorem Fq.uniq{K K':Int}{s s':Bool}{M M' E E' r:Int}(h:Fq K s M E r)(k:Fq K' s' M' E' r):K=K'/\s=s'/\M=M'/\E=E':=by
 rcases h.cases with⟨rfl,rfl,rfl,rfl,h0⟩ | ⟨rfl,h1,h2,h3,h4,⟨rfl,h5⟩ | ⟨rfl,h5⟩⟩ | ⟨rfl,rfl,rfl,⟨rfl,h5⟩ | ⟨rfl,h5⟩⟩ <;>
  rcases k.cases with⟨rfl,rfl,rfl,rfl,k0⟩ | ⟨rfl,k1,k2,k3,k4,⟨rfl,k5⟩ | ⟨rfl,k5⟩⟩ | ⟨rfl,rfl,rfl,⟨rfl,k5⟩ | ⟨rfl,k5⟩⟩ <;>
  first | exact⟨rfl,rfl,rfl,rfl⟩ | (exfalso;omega) | exact⟨rfl,rfl,by omega,by omega⟩
theorem Fq.bd{K:Int}{s:Bool}{M E r:Int}(h:Fq K s M E r): -19342822337206103650074625<=r/\r<=19342822337206103650074625:=by
 rcases h.cases with⟨rfl,rfl,rfl,rfl,h0⟩ | ⟨rfl,h1,h2,h3,h4,⟨rfl,h5⟩ | ⟨rfl,h5⟩⟩ | ⟨rfl,rfl,rfl,⟨rfl,h5⟩ | ⟨rfl,h5⟩⟩ <;> omega
theorem Fq.top{K:Int}{s:Bool}{M E r:Int}(h:Fq K s M E r):M < 18446744073709551616:=h.2.1
theorem Fq.rk{K:Int}{s:Bool}{M E r:Int}(h:Fq K s M E r):rk K s M E=r:=by
 unfold Go.Proofs.YtomikokonmikgaaGreatDoor.rk
 rw[if_pos h.1];exact h.2.2
theorem rk_not{K:Int}{s:Bool}{M E:Int}(h:¬MayQ K s M E):rk K s M E=0:=by
 unfold rk
 rw[if_neg h]
theorem rk_fq{K:Int}{s:Bool}{M E:Int}(hM:M < 18446744073709551616)(h:MayQ K s M E):Fq K s M E (rk K s M E):=⟨h,hM,by unfold rk;rw[if_pos h]⟩
theorem rk_bd{K:Int}{s:Bool}{M E:Int}(hM:LQ M): -19342822337206103650074625<=rk K s M E/\rk K s M E<=19342822337206103650074625:=by
 by_cases h:MayQ K s M E
 ·exact(rk_fq hM h).bd
 ·rw[rk_not h];decide
theorem rk_neg{K:Int}{s:Bool}{M E r:Int}(h:Fq K s M E r)(hK:K≠0):Fq K (!s) M E (-r):=by
 rcases h.cases with⟨rfl,rfl,rfl,rfl,h0⟩ | ⟨rfl,h1,h2,h3,h4,⟨rfl,h5⟩ | ⟨rfl,h5⟩⟩ | ⟨rfl,rfl,rfl,⟨rfl,h5⟩ | ⟨rfl,h5⟩⟩
 ·exact absurd rfl hK
 ·exact Fq.fin h1 h2 h3 h4 (by rw[h5];rfl)
 ·exact Fq.fin h1 h2 h3 h4 (by rw[h5];rfl)
 ·subst h5;exact Fq.inf true
 ·subst h5;exact Fq.inf false
def fa (K M E K' M' E':Int):Int:=if K≠K' then cmpI K K' else if E≠E' then cmpI E E' else cmpI M M'
theorem fa_bd (K M E K' M' E':Int): -1<=fa K M E K' M' E'/\fa K M E K' M' E'<=1:=by
 unfold fa
 split
 ·exact cmpI_bd _ _
 ·split
  ·exact cmpI_bd _ _
  ·exact cmpI_bd _ _
theorem cmpI_tri (x y:Int):(x < y/\cmpI x y= -1)\/(x=y/\cmpI x y=0)\/(y < x/\cmpI x y=1):=by
 unfold cmpI
 by_cases h1:x < y
 ·rw[if_pos h1];exact Or.inl ⟨h1,rfl⟩
 ·by_cases h2:y < x
  ·rw[if_neg h1,if_pos h2];exact Or.inr (Or.inr ⟨h2,rfl⟩)
  ·rw[if_neg h1,if_neg h2];exact Or.inr (Or.inl ⟨by omega,rfl⟩)
theorem Fq.plc{K:Int}{s:Bool}{M E r:Int}(h:Fq K s M E r)(hK:K≠0):(K=1/\9223372036854775808<=M/\M < 18446744073709551616/\ -1048576<=E/\E<=1048576/\plc K M E=M-9223372036854775808+1+(E+1048576)*9223372036854775808)\/(K=2/\M=0/\E=0/\plc K M E=19342822337206103650074625):=by
 obtain⟨h1,h2,h3⟩:=h
 rcases h1 with⟨rfl,rfl,rfl,rfl⟩ | ⟨rfl,h4,h5,h6⟩ | ⟨rfl,rfl,rfl⟩
 ·exact absurd rfl hK
 ·exact Or.inl ⟨rfl,h4,h2,h5,h6,rfl⟩
 ·exact Or.inr ⟨rfl,rfl,rfl,rfl⟩
theorem fa_plc{K K':Int}{s s':Bool}{M M' E E' r r':Int}(h:Fq K s M E r)(k:Fq K' s' M' E' r')(hK:K≠0)(hK':K'≠0):fa K M E K' M' E'=cmpI (plc K M E) (plc K' M' E'):=by
 unfold fa
 rcases h.plc hK with⟨rfl,h1,h2,h3,h4,h5⟩ | ⟨rfl,rfl,rfl,h5⟩ <;> rcases k.plc hK' with⟨rfl,k1,k2,k3,k4,k5⟩ | ⟨rfl,rfl,rfl,k5⟩ <;> simp only[h5,k5]
 ·rw[if_neg (by decide)]
  rcases cmpI_tri E E' with⟨b1,b2⟩ | ⟨b1,b2⟩ | ⟨b1,b2⟩
  ·rw[if_pos (by omega),b2,cmpI_lt (by omega)]
  ·rw[if_neg (by omega)]
   rcases cmpI_tri M M' with⟨c1,c2⟩ | ⟨c1,c2⟩ | ⟨c1,c2⟩
   ·rw[c2,cmpI_lt (by omega)]
   ·rw[c2,cmpI_eq (by omega)]
   ·rw[c2,cmpI_gt (by omega)]
  ·rw[if_pos (by omega),b2,cmpI_gt (by omega)]
 ·rw[if_pos (by decide),cmpI_lt (by decide),cmpI_lt (by omega)]
 ·rw[if_pos (by decide),cmpI_gt (by decide),cmpI_gt (by omega)]
 ·rw[if_neg (by decide),if_neg (by decide)]
  rfl
theorem plc_pos{K:Int}{s:Bool}{M E r:Int}(h:Fq K s M E r)(hK:K≠0):0 < plc K M E:=by
 rcases h.plc hK with⟨rfl,h1,h2,h3,h4,h5⟩ | ⟨rfl,rfl,rfl,h5⟩ <;> rw[h5] <;> omega
theorem cmpI_negs (x y:Int):cmpI (-x) (-y)= -cmpI x y:=by
 rcases cmpI_tri x y with⟨a1,a2⟩ | ⟨a1,a2⟩ | ⟨a1,a2⟩ <;> rw[a2]
 ·rw[cmpI_gt (by omega),Int.neg_neg]
 ·rw[cmpI_eq (by omega)];rfl
 ·rw[cmpI_lt (by omega)]
theorem fa_fq{K K':Int}{s:Bool}{M M' E E' r r':Int}(h:Fq K s M E r)(k:Fq K' s M' E' r')(hK:K≠0)(hK':K'≠0):cmpI r 0*fa K M E K' M' E'=cmpI r r':=by
 rw[fa_plc h k hK hK',<-h.2.2,<-k.2.2];have p1:=plc_pos h hK
 cases s
 ·show cmpI (plc K M E) 0*_=cmpI (plc K M E) (plc K' M' E')
  rw[cmpI_gt p1,Int.one_mul]
 ·show cmpI (-plc K M E) 0*_=cmpI (-plc K M E) (-plc K' M' E')
  rw[cmpI_lt (show -plc K M E < 0 by omega),cmpI_negs,Int.neg_mul,Int.one_mul]
theorem Fq.zero_iff{K:Int}{s:Bool}{M E r:Int}(h:Fq K s M E r):K=0↔r=0:=by
 rcases h.cases with⟨rfl,rfl,rfl,rfl,h0⟩ | ⟨rfl,h1,h2,h3,h4,⟨rfl,h5⟩ | ⟨rfl,h5⟩⟩ | ⟨rfl,rfl,rfl,⟨rfl,h5⟩ | ⟨rfl,h5⟩⟩ <;> constructor <;> intro _ <;> omega
theorem Fq.sign{K:Int}{s:Bool}{M E r:Int}(h:Fq K s M E r)(hK:K≠0):cmpI r 0=if s=true then -1 else 1:=by
 rcases h.cases with⟨rfl,rfl,rfl,rfl,h0⟩ | ⟨rfl,h1,h2,h3,h4,⟨rfl,h5⟩ | ⟨rfl,h5⟩⟩ | ⟨rfl,rfl,rfl,⟨rfl,h5⟩ | ⟨rfl,h5⟩⟩
 ·exact absurd rfl hK
 ·rw[cmpI_gt (by omega)];rfl
 ·rw[cmpI_lt (by omega)];rfl
 ·rw[cmpI_gt (by omega)];rfl
 ·rw[cmpI_lt (by omega)];rfl
theorem cmp_far{K K':Int}{s s':Bool}{M M' E E':Int}(hM:LQ M)(hM':LQ M')(he:cmpI (rk K s M E) 0=cmpI (rk K' s' M' E') 0):cmpI (rk K s M E) 0*fa K M E K' M' E'=cmpI (rk K s M E) (rk K' s' M' E'):=by
 by_cases h0:rk K s M E=0
 ·have h1:rk K' s' M' E'=0:=by
   rw[h0,cmpI_eq rfl]at he;exact cmpI_zero.1 he.symm
  rw[h0,h1,cmpI_eq rfl,Int.zero_mul]
 ·have h1:rk K' s' M' E'≠0:=fun h=>by
   rw[h,cmpI_eq rfl]at he;exact h0 (cmpI_zero.1 he)
  have m1:MayQ K s M E:=Decidable.by_contra fun h=>h0 (rk_not h)
  have m2:MayQ K' s' M' E':=Decidable.by_contra fun h=>h1 (rk_not h)
  have f1:=rk_fq hM m1;have f2:=rk_fq hM' m2
  have k1:K≠0:=fun h=>h0 (f1.zero_iff.1 h)
  have k2:K'≠0:=fun h=>h1 (f2.zero_iff.1 h)
  have hs:s=s':=by
   rw[f1.sign k1,f2.sign k2]at he
   cases s <;> cases s' <;> first | rfl | exact absurd he (by decide)
  subst hs;exact fa_fq f1 f2 k1 k2
theorem cmp_sign{x y:Int}(he:cmpI x 0≠cmpI y 0):cmpI (cmpI x 0) (cmpI y 0)=cmpI x y:=by
 rcases cmpI_tri x 0 with⟨a1,a2⟩ | ⟨a1,a2⟩ | ⟨a1,a2⟩ <;> rcases cmpI_tri y 0 with⟨b1,b2⟩ | ⟨b1,b2⟩ | ⟨b1,b2⟩ <;> rw[a2,b2]at he|-
 ·exact absurd rfl he
 ·rw[cmpI_lt (show x < y by omega)];rfl
 ·rw[cmpI_lt (show x < y by omega)];rfl
 ·rw[cmpI_gt (show y < x by omega)];rfl
 ·exact absurd rfl he
 ·rw[cmpI_lt (show x < y by omega)];rfl
 ·rw[cmpI_gt (show y < x by omega)];rfl
 ·rw[cmpI_gt (show y < x by omega)];rfl
 ·exact absurd rfl he
def nx (up:Bool)(r:Int):Int:=if up=true then min TP (r+1)else max (-TP) (r-1)
end Go.Proofs.YtomikokonmikgaaGreatDoor
namespace Go.Proofs.YtomikokonmikgaaGreatDoor
set_option maxHeartbeats 4000000
open Go.RowKit
set_option linter.unusedVariables false
theorem StN.mk4{w:World}{g:Nat}{T:TypeId}{a b c d:Value}(X:Bo w g #[a,b,c,d] T)(u v t x:Value):StN w ((((w.setCell ⟨g,0,none⟩ u).setCell ⟨g,1,none⟩ v).setCell ⟨g,2,none⟩ t).setCell ⟨g,3,none⟩ x) g #[a,b,c,d] #[u,v,t,x] T:=
 ⟨X,by simpa using (((X.set 0 u).set 1 v).set 2 t).set 3 x,fun k hk=>by rw[Below.heap_setCell _ _ _ _ hk,Below.heap_setCell _ _ _ _ hk,Below.heap_setCell _ _ _ _ hk,Below.heap_setCell _ _ _ _ hk],fun B a hg h=>below_store (st3 h hg u v t) hg 3 x⟩
theorem StN.at4{w:World}{g:Nat}{T:TypeId}{cs:Array Value}(X:Bo w g cs T)(i:Nat)(v:Value):StN w (w.setCell ⟨g,i,none⟩ v) g cs (cs.setIfInBounds i v) T:=
 ⟨X,X.set i v,fun k hk=>Below.heap_setCell _ _ _ _ hk,fun B a hg h=>below_store h hg i v⟩
theorem mayQ0{s:Bool}{M E:Int}:decide (MayQ 0 s M E)=((s==false) && ((M==0) && (E==0))):=by
 unfold MayQ
 rw[Bool.eq_iff_iff]
 simp
theorem mayQ1{s:Bool}{M E:Int}:decide (MayQ 1 s M E)=(decide (9223372036854775808<=M) && (decide (-1048576<=E) && decide (E<=1048576))):=by
 unfold MayQ
 rw[Bool.eq_iff_iff]
 simp
theorem mayQ2{s:Bool}{M E:Int}:decide (MayQ 2 s M E)=((M==0) && (E==0)):=by
 unfold MayQ
 rw[Bool.eq_iff_iff]
 simp
theorem mayQ3{K:Int}{s:Bool}{M E:Int}(h0:K≠0)(h1:K≠1)(h2:K≠2):decide (MayQ K s M E)=false:=by
 unfold MayQ
 simp[h0,h1,h2]
theorem nMay{w:World}{K M E:Int}{s:Bool}{r:Bool}(hr:decide (MayQ K s M E)=r):Calls Tryz.prog 32 #[VQ K s M E] w (PB w r):=by
 delta VQ
 subst hr
 by_cases h0:K=0
 ·subst h0;rw[mayQ0]
  go_enter Tryz.func32,Tryz.ntmps32
  go_wp2
  all_goals go_ret
  all_goals exact⟨by simp_all,bel1 _ _⟩
 by_cases h1:K=1
 ·subst h1;rw[mayQ1]
  by_cases c1:9223372036854775808<=M
  ·have e1:decide (9223372036854775808<=M)=true:=dt c1
   by_cases c2: -1048576<=E
   ·have e2:decide (-1048576<=E)=true:=dt c2
    by_cases c3:E<=1048576
    ·have e3:decide (E<=1048576)=true:=dt c3
     rw[e1,e2,e3]
     go_enter Tryz.func32,Tryz.ntmps32
     go_wp2
     go_ret
     exact⟨rfl,bel1 _ _⟩
    ·have e3:decide (E<=1048576)=false:=df c3
     rw[e1,e2,e3]
     go_enter Tryz.func32,Tryz.ntmps32
     go_wp2
     go_ret
     exact⟨rfl,bel1 _ _⟩
   ·have e2:decide (-1048576<=E)=false:=df c2
    rw[e1,e2]
    go_enter Tryz.func32,Tryz.ntmps32
    go_wp2
    go_ret
    exact⟨rfl,bel1 _ _⟩
  ·have e1:decide (9223372036854775808<=M)=false:=df c1
   rw[e1]
   go_enter Tryz.func32,Tryz.ntmps32
   go_wp2
   go_ret
   exact⟨rfl,bel1 _ _⟩
 by_cases h2:K=2
 ·subst h2;rw[mayQ2]
  by_cases c1:M=0
  ·subst c1
   by_cases c2:E=0
   ·subst c2
    go_enter Tryz.func32,Tryz.ntmps32
    go_wp2
    go_ret
    exact⟨rfl,bel1 _ _⟩
   ·have e2:(E==0)=false:=by simpa using c2
    rw[e2]
    go_enter Tryz.func32,Tryz.ntmps32
    go_wp2
    go_ret
    exact⟨rfl,bel1 _ _⟩
  ·have e1:(M==0)=false:=by simpa using c1
   rw[e1]
   go_enter Tryz.func32,Tryz.ntmps32
   go_wp2
   go_ret
   exact⟨rfl,bel1 _ _⟩
 ·rw[mayQ3 h0 h1 h2]
  have e0:(K==0)=false:=by simpa using h0
  have e1:(K==1)=false:=by simpa using h1
  have e2:(K==2)=false:=by simpa using h2
  go_enter Tryz.func32,Tryz.ntmps32
  go_wp2
  go_ret
  exact⟨rfl,bel1 _ _⟩
theorem StN.of4{w w1:World}{g:Nat}{T:TypeId}{a0 a1 a2 a3 v0 v1 v2 v3:Value}(X:Bo w g #[a0,a1,a2,a3] T)(h:(((w.setCell ⟨g,0,none⟩ v0).setCell ⟨g,1,none⟩ v1).setCell ⟨g,2,none⟩ v2).setCell ⟨g,3,none⟩ v3=w1):StN w w1 g #[a0,a1,a2,a3] #[v0,v1,v2,v3] T:=h▸StN.mk4 X v0 v1 v2 v3
theorem StN.t4{w:World}{g:Nat}{T:TypeId}{a b c d:Value}(X:Bo w g #[a,b,c,d] T)(K:Int)(s:Bool)(M E:Int):StN w ((((w.setCell ⟨g,0,none⟩ (.int .i64 K)).setCell ⟨g,1,none⟩ (.bool s)).setCell ⟨g,2,none⟩ (.int .u64 M)).setCell ⟨g,3,none⟩ (.int .i64 E)) g #[a,b,c,d] #[.int .i64 K,.bool s,.int .u64 M,.int .i64 E] T:=StN.mk4 X _ _ _ _
set_option linter.unusedSimpArgs false
set_option maxRecDepth 100000
def PN (w:World)(r:Int)(e:Ending)(w':World):Prop:=∃D s M E,e= .returned (.agg #[.int .i64 D,.bool s,.int .u64 M,.int .i64 E])/\Fq D s M E r/\Below w.heap.size w w'
theorem Fq.three{D:Int}{s:Bool}{M E r:Int}(h:Fq D s M E r):(D=0/\r=0)\/(D≠0/\s=false/\0 < r)\/(D≠0/\s=true/\r < 0):=by
 rcases h.cases with⟨rfl,rfl,rfl,rfl,h0⟩ | ⟨rfl,h1,h2,h3,h4,⟨rfl,h5⟩ | ⟨rfl,h5⟩⟩ | ⟨rfl,rfl,rfl,⟨rfl,h5⟩ | ⟨rfl,h5⟩⟩
 ·exact Or.inl ⟨rfl,h0⟩
 ·exact Or.inr (Or.inl ⟨by decide,rfl,by omega⟩)
 ·exact Or.inr (Or.inr ⟨by decide,rfl,by omega⟩)
 ·exact Or.inr (Or.inl ⟨by decide,rfl,by omega⟩)
 ·exact Or.inr (Or.inr ⟨by decide,rfl,by omega⟩)
theorem nTaken{w:World}{D M E:Int}{s:Bool}{r:Int}(hM:LQ M)(hr:rk D s M E=r):Calls Tryz.prog 108 #[VQ D s M E] w (PN w r):=by
 delta VQ
 by_cases hm:MayQ D s M E
 ·have HQ:=rk_fq hM hm;rw[hr]at HQ
  have HC:=ie (show decide (MayQ D s M E)=true from dt hm)
  clear hm hr hM
  go_enter Tryz.func108,Tryz.ntmps108
  go_upto_region 1 with (fail)
  generalize hW1:(w.alloc _).alloc _=w1 at *;obtain⟨X1,XR,HB⟩:=Bo.en2 hW1;clear hW1;have xX1:=X1.cell
  go_wp2_with fail
  refine(nMay HC.out).mono ?_;rintro ee w2 ⟨rfl,B⟩;clear xX1;replace X1:=X1.b B;replace XR:=XR.b B;replace HB:=Hqb HB B;clear B;have xXR:=XR.cell;have zXR0:=XR.frozen;have xX1:=X1.cell;go_wp2;clear xXR zXR0 xX1;have SX:=StN.t4 XR D s M E
  exact bq (by simp[results,Tryz.results108,go_sem,SX.box.cell]) rfl ⟨D,s,M,E,rfl,HQ,(SX.below HB.out (by omega))⟩
 ·rw[rk_not hm]at hr;subst hr
  have HC:=ie (show decide (MayQ D s M E)=false from df hm)
  clear hm hM
  go_enter Tryz.func108,Tryz.ntmps108
  go_upto_region 1 with (fail)
  generalize hW1:(w.alloc _).alloc _=w1 at *;obtain⟨X1,XR,HB⟩:=Bo.en2 hW1;clear hW1;have xX1:=X1.cell
  go_wp2_with fail
  refine(nMay HC.out).mono ?_;rintro ee w2 ⟨rfl,B⟩;clear xX1;replace X1:=X1.b B;replace XR:=XR.b B;replace HB:=Hqb HB B;clear B;have xXR:=XR.cell;have zXR0:=XR.frozen;have xX1:=X1.cell;go_wp2;clear xXR zXR0 xX1;have SX:=StN.t4 XR 0 false 0 0
  exact bq (by simp[results,Tryz.results108,go_sem,SX.box.cell]) rfl ⟨_,_,_,_,rfl,Fq.nought,(SX.below HB.out (by omega))⟩
theorem nInf{w:World}{s:Bool}{r:Int}(hr:sgi s TP=r):Calls Tryz.prog 79 #[.bool s] w (PN w r):=by
 go_enter Tryz.func79,Tryz.ntmps79
 go_upto_region 1 with (fail)
 generalize hW1:w.alloc _=w1 at *;obtain⟨XR,HB⟩:=Bo.en1 hW1;clear hW1;have xXR:=XR.cell;have zXR0:=XR.frozen;go_wp2;clear xXR zXR0;have SX:=StN.t4 XR 2 s 0 0;exact bq (v:= .agg #[.int .i64 2,.bool s,.int .u64 0,.int .i64 0]) (by simp[results,Tryz.results79,go_sem,SX.box.cell]) rfl ⟨_,_,_,_,rfl,hr▸Fq.inf s,(SX.below HB.out (by omega))⟩
theorem nT{w:World}{s:Bool}:Calls Tryz.prog 256 #[.bool s] w (fun e w'=>e= .returned (.agg #[.int .i64 1,.bool s,.int .u64 9223372036854775808,.int .i64 (-1048576)])/\Below w.heap.size w w'):=by
 go_enter Tryz.func256,Tryz.ntmps256
 go_upto_region 1 with (fail)
 generalize hW1:w.alloc _=w1 at *;obtain⟨XR,HB⟩:=Bo.en1 hW1;clear hW1;have xXR:=XR.cell;have zXR0:=XR.frozen;go_wp2;clear xXR zXR0;have SX:=StN.t4 XR 1 s 9223372036854775808 (-1048576);exact bq (v:= .agg #[.int .i64 1,.bool s,.int .u64 9223372036854775808,.int .i64 (-1048576)]) (by simp[results,Tryz.results256,go_sem,SX.box.cell]) rfl ⟨rfl,(SX.below HB.out (by omega))⟩
theorem nH{w:World}{s:Bool}:Calls Tryz.prog 269 #[.bool s] w (fun e w'=>e= .returned (.agg #[.int .i64 1,.bool s,.int .u64 18446744073709551615,.int .i64 1048576])/\Below w.heap.size w w'):=by
 go_enter Tryz.func269,Tryz.ntmps269
 go_upto_region 1 with (fail)
 generalize hW1:w.alloc _=w1 at *;obtain⟨XR,HB⟩:=Bo.en1 hW1;clear hW1;have xXR:=XR.cell;have zXR0:=XR.frozen;go_wp2;clear xXR zXR0;have SX:=StN.t4 XR 1 s 18446744073709551615 1048576;exact bq (v:= .agg #[.int .i64 1,.bool s,.int .u64 18446744073709551615,.int .i64 1048576]) (by simp[results,Tryz.results269,go_sem,SX.box.cell]) rfl ⟨rfl,(SX.below HB.out (by omega))⟩
theorem nSign{w:World}{D M E:Int}{s:Bool}{σ:Int}(hM:LQ M)(hs:cmpI (rk D s M E) 0=σ):Calls Tryz.prog 38 #[VQ D s M E] w (PI w σ):=by
 delta VQ
 obtain⟨r,hr⟩:∃r,rk D s M E=r:=⟨_,rfl⟩;rw[hr]at hs;have HR:=ie hr;have HS:=ie hs;clear hr hs
 go_enter Tryz.func38,Tryz.ntmps38
 go_upto_region 1 with (fail)
 generalize hW1:w.alloc _=w1 at *;obtain⟨X1,HB⟩:=Bo.en1 hW1;clear hW1;have xX1:=X1.cell
 go_wp2_with fail
 refine(nTaken hM HR.out).mono ?_;rintro ee w2 ⟨K1,s1,M1,E1,rfl,q1,B⟩;clear xX1;replace X1:=X1.b B;replace HB:=Hqb HB B;clear B;have xX1:=X1.cell;have zX10:=X1.frozen
 go_upto_region 2 with (fail)
 clear xX1 zX10;generalize hS:(((w2.setCell _ _).setCell _ _).setCell _ _).setCell _ _=w3 at *;have SX:=StN.of4 X1 hS;replace HB:=Hqs HB SX (by omega);replace X1:=SX.box;clear SX hS
 rcases q1.three with⟨h0,hr⟩ | ⟨h0,h1,hr⟩ | ⟨h0,h1,hr⟩
 ·subst h0;have hs:=HS.out;rw[cmpI_eq hr]at hs;subst hs;clear q1;have xX1:=X1.cell;go_wp2
  go_ret
  exact⟨by first | rfl | simp_all,HB.out⟩
 ·have e0:(K1==0)=false:=by simpa using h0
  have hs:=HS.out;rw[cmpI_gt hr]at hs;subst hs;subst h1;clear q1;have xX1:=X1.cell;go_wp2
  go_ret
  exact⟨by first | rfl | simp_all,HB.out⟩
 ·have e0:(K1==0)=false:=by simpa using h0
  have hs:=HS.out;rw[cmpI_lt hr]at hs;subst hs;subst h1;clear q1;have xX1:=X1.cell;go_wp2
  go_ret
  exact⟨by first | rfl | simp_all,HB.out⟩
theorem nNeg{w:World}{D M E:Int}{s:Bool}{r:Int}(hM:LQ M)(hr: -rk D s M E=r):Calls Tryz.prog 36 #[VQ D s M E] w (PN w r):=by
 delta VQ
 obtain⟨x,hx⟩:∃x,rk D s M E=x:=⟨_,rfl⟩;rw[hx]at hr;have HX:=ie hx;subst hr;clear hx
 go_enter Tryz.func36,Tryz.ntmps36
 go_upto_region 1 with (fail)
 generalize hW1:(w.alloc _).alloc _=w1 at *;obtain⟨X1,XR,HB⟩:=Bo.en2 hW1;clear hW1;have xX1:=X1.cell
 go_wp2_with fail
 refine(nTaken hM HX.out).mono ?_;rintro ee w2 ⟨K1,s1,M1,E1,rfl,q1,B⟩;clear xX1;replace X1:=X1.b B;replace XR:=XR.b B;replace HB:=Hqb HB B;clear B;have xX1:=X1.cell;have zX10:=X1.frozen
 go_upto_region 2 with (fail)
 clear xX1 zX10;generalize hS:(((w2.setCell _ _).setCell _ _).setCell _ _).setCell _ _=w3 at *;have SX:=StN.of4 X1 hS;replace XR:=XR.s SX;replace HB:=Hqs HB SX (by omega);replace X1:=SX.box;clear SX hS
 by_cases h0:K1=0
 ·subst h0;have hz:=q1.zero_iff.1 rfl;subst hz;have xXR:=XR.cell;have zXR0:=XR.frozen;have xX1:=X1.cell;go_wp2;clear xXR zXR0 xX1;have SX:=StN.t4 XR 0 s1 M1 E1;exact bq (by simp[results,Tryz.results36,go_sem,SX.box.cell]) rfl ⟨_,_,_,_,rfl,q1,(SX.below HB.out (by omega))⟩
 ·have e0:(K1==0)=false:=by simpa using h0
  have q2:=rk_neg q1 h0;have xX1:=X1.cell;have zX10:=X1.frozen
  go_upto_region 4 with (fail)
  clear xX1 zX10
  have SX:StN w3 (World.setCell w3 ⟨w.heap.size,1,none⟩ (.bool (!s1))) _ _ #[.int .i64 K1,.bool (!s1),.int .u64 M1,.int .i64 E1] _:=StN.at4 X1 1 (.bool (!s1))
  replace XR:=XR.s SX;replace HB:=Hqs HB SX (by omega);replace X1:=SX.box;clear SX;generalize World.setCell w3 ⟨w.heap.size,1,none⟩ (.bool (!s1))=w4 at *;have xXR:=XR.cell;have zXR0:=XR.frozen;have xX1:=X1.cell;go_wp2;clear xXR zXR0 xX1;have SX:=StN.t4 XR K1 (!s1) M1 E1
  exact bq (by simp[results,Tryz.results36,go_sem,SX.box.cell]) rfl ⟨_,_,_,_,rfl,q2,(SX.below HB.out (by omega))⟩
theorem compare64_any (x y:Int)(w:World):Calls Tryz.prog 181 #[.int .u64 x,.int .u64 y] w fun e w'=>e= .returned (.int .i64 (cmpI x y))/\w=w':=by
 go_enter Tryz.func181,Tryz.ntmps181
 go_wp2
 all_goals go_ret
 ·exact⟨ret_int (cmpI_lt (by assumption)).symm,rfl⟩
 ·exact⟨ret_int (cmpI_gt (by assumption)).symm,rfl⟩
 ·exact⟨ret_int (cmpI_eq (by omega)).symm,rfl⟩
theorem vCmpI{x y z:Int}(w:World)(h:cmpI x y=z):Calls Tryz.prog 110 #[.int .i64 x,.int .i64 y] w (PI w z):=by
 subst h;refine(compareInt_any x y w).mono ?_;rintro e w' ⟨rfl,rfl⟩;exact⟨rfl,Below.refl _ _⟩
theorem vCmpU{x y z:Int}(w:World)(h:cmpI x y=z):Calls Tryz.prog 181 #[.int .u64 x,.int .u64 y] w (PI w z):=by
 subst h;refine(compare64_any x y w).mono ?_;rintro e w' ⟨rfl,rfl⟩;exact⟨rfl,Below.refl _ _⟩
theorem nFar{w:World}{D D' M M' E E':Int}{s s':Bool}{r:Int}(hr:fa D M E D' M' E'=r):Calls Tryz.prog 111 #[VQ D s M E,VQ D' s' M' E'] w (PI w r):=by
 delta VQ
 unfold fa at hr
 by_cases hk:D≠D'
 ·rw[if_pos hk]at hr
  have e0:(D==D')=false:=by simpa using hk
  have HR:=ie hr;clear hr hk
  go_enter Tryz.func111,Tryz.ntmps111
  go_upto_region 1 with (fail)
  generalize hW1:(w.alloc _).alloc _=w1 at *;obtain⟨X1,X2,HB⟩:=Bo.en2 hW1;clear hW1;have xX1:=X1.cell;have xX2:=X2.cell
  go_wp2_with fail
  refine(vCmpI _ HR.out).mono ?_;rintro ee w2 ⟨rfl,B⟩;clear xX1 xX2;replace X1:=X1.b B;replace X2:=X2.b B;replace HB:=Hqb HB B;clear B;go_wp2
  go_ret
  exact⟨rfl,HB.out⟩
 ·rw[if_neg hk]at hr
  obtain rfl:D=D':=Decidable.not_not.1 hk
  clear hk
  by_cases he:E≠E'
  ·rw[if_pos he]at hr
   have e0:(E==E')=false:=by simpa using he
   have HR:=ie hr;clear hr he
   go_enter Tryz.func111,Tryz.ntmps111
   go_upto_region 1 with (fail)
   generalize hW1:(w.alloc _).alloc _=w1 at *;obtain⟨X1,X2,HB⟩:=Bo.en2 hW1;clear hW1;have xX1:=X1.cell;have xX2:=X2.cell
   go_wp2_with fail
   refine(vCmpI _ HR.out).mono ?_;rintro ee w2 ⟨rfl,B⟩;clear xX1 xX2;replace X1:=X1.b B;replace X2:=X2.b B;replace HB:=Hqb HB B;clear B;go_wp2
   go_ret
   exact⟨rfl,HB.out⟩
  ·rw[if_neg he]at hr
   obtain rfl:E=E':=Decidable.not_not.1 he
   have HR:=ie hr;clear hr he
   go_enter Tryz.func111,Tryz.ntmps111
   go_upto_region 1 with (fail)
   generalize hW1:(w.alloc _).alloc _=w1 at *;obtain⟨X1,X2,HB⟩:=Bo.en2 hW1;clear hW1;have xX1:=X1.cell;have xX2:=X2.cell
   go_wp2_with fail
   refine(vCmpU _ HR.out).mono ?_;rintro ee w2 ⟨rfl,B⟩;clear xX1 xX2;replace HB:=Hqb HB B;clear B;go_wp2
   go_ret
   exact⟨rfl,HB.out⟩
theorem nCmp{w:World}{D D' M M' E E':Int}{s s':Bool}{z:Int}(hM:LQ M)(hM':LQ M')(hz:cmpI (rk D s M E) (rk D' s' M' E')=z):Calls Tryz.prog 40 #[VQ D s M E,VQ D' s' M' E'] w (PI w z):=by
 delta VQ
 have hs:=cmp_sign (x:=rk D s M E) (y:=rk D' s' M' E');have hf:=cmp_far (K:=D) (s:=s) (E:=E) (K':=D') (s':=s') (E':=E') hM hM';have b1:=fa_bd D M E D' M' E';have b2:=cmpI_bd (rk D s M E) 0
 revert hs hf b1 b2
 generalize hσ:cmpI (rk D s M E) 0=σ;generalize hτ:cmpI (rk D' s' M' E') 0=τ;generalize hφ:fa D M E D' M' E'=φ;rw[hz]
 intro hs hf b1 b2
 have HS:=ie hσ;have HT:=ie hτ;have HF:=ie hφ;clear hσ hτ hφ hz
 by_cases he:σ≠τ
 ·have e0:(σ==τ)=false:=by simpa using he
  have HZ:=ie (hs he);clear hs hf he b1 b2
  go_enter Tryz.func40,Tryz.ntmps40
  go_upto_region 1 with (fail)
  generalize hW1:(w.alloc _).alloc _=w1 at *;obtain⟨X1,X2,HB⟩:=Bo.en2 hW1;clear hW1;refine jk [0,1,2,3,4,5] [some 7,some 8,some 9,some 10,some 5,some 6] [[],[0],[],[2],[1],[3]] 6 0 [Jo.q4 D s M E,Jo.qi σ,Jo.q4 D' s' M' E',Jo.qi τ,Jo.qi σ,Jo.qi τ] ?_ ?_
  ·refine jm ?_ ?_;rotate_left
   refine jm ?_ ?_
   ·rintro wj hJ _ rfl K hK;simp only[Jo.z]at hK|-;go_simp;refine(nSign hM HS.out).mono ?_;rintro ee wk ⟨rfl,B⟩;exact hK.out _ _ rfl B
   refine jm ?_ ?_;rotate_left
   refine jm ?_ ?_
   ·rintro wj hJ _ rfl K hK;simp only[Jo.z]at hK|-;go_simp;refine(nSign hM' HT.out).mono ?_;rintro ee wk ⟨rfl,B⟩;exact hK.out _ _ rfl B
   iterate 2 (refine jm ?_ ?_;rotate_left)
   exact jo
   all_goals (rintro wj hJ;(repeat rintro _ rfl);intro K hK;simp only[Jo.z]at hK|-;have xX1:=(X1.b hJ).cell;have xX2:=(X2.b hJ).cell;go_simp;exact hK.out _ _ rfl (br _ _))
  rintro w2 hJ _ rfl _ rfl _ rfl _ rfl _ rfl _ rfl -;simp only[Jo.z];replace X1:=X1.b hJ;replace X2:=X2.b hJ;replace HB:=Hqb HB hJ;refine jd ?_
  go_wp2_with fail
  refine(vCmpI _ HZ.out).mono ?_;rintro ee w3 ⟨rfl,B⟩;replace X1:=X1.b B;replace X2:=X2.b B;replace HB:=Hqb HB B;clear B;go_wp2
  go_ret
  exact⟨rfl,HB.out⟩
 ·obtain rfl:σ=τ:=Decidable.not_not.1 he
  have HZ:=ie (hf rfl)
  have HW:Hid (IntKind.i64.wrap (σ*φ)=z):=ie (by
   rw[hf rfl];refine IntWalk.i64_in _ ?_;rw[<-hf rfl]
   rcases (show σ= -1\/σ=0\/σ=1 by omega)with h | h | h <;> rw[h] <;> omega)
  clear hs hf he b1 b2
  go_enter Tryz.func40,Tryz.ntmps40
  go_upto_region 1 with (fail)
  generalize hW1:(w.alloc _).alloc _=w1 at *;obtain⟨X1,X2,HB⟩:=Bo.en2 hW1;clear hW1;refine jk [0,1,2,3,4,5] [some 7,some 8,some 9,some 10,some 5,some 6] [[],[0],[],[2],[1],[3]] 6 0 [Jo.q4 D s M E,Jo.qi σ,Jo.q4 D' s' M' E',Jo.qi σ,Jo.qi σ,Jo.qi σ] ?_ ?_
  ·refine jm ?_ ?_;rotate_left
   refine jm ?_ ?_
   ·rintro wj hJ _ rfl K hK;simp only[Jo.z]at hK|-;go_simp;refine(nSign hM HS.out).mono ?_;rintro ee wk ⟨rfl,B⟩;exact hK.out _ _ rfl B
   refine jm ?_ ?_;rotate_left
   refine jm ?_ ?_
   ·rintro wj hJ _ rfl K hK;simp only[Jo.z]at hK|-;go_simp;refine(nSign hM' HT.out).mono ?_;rintro ee wk ⟨rfl,B⟩;exact hK.out _ _ rfl B
   iterate 2 (refine jm ?_ ?_;rotate_left)
   exact jo
   all_goals (rintro wj hJ;(repeat rintro _ rfl);intro K hK;simp only[Jo.z]at hK|-;have xX1:=(X1.b hJ).cell;have xX2:=(X2.b hJ).cell;go_simp;exact hK.out _ _ rfl (br _ _))
  rintro w2 hJ _ rfl _ rfl _ rfl _ rfl _ rfl _ rfl -;simp only[Jo.z];replace X1:=X1.b hJ;replace X2:=X2.b hJ;replace HB:=Hqb HB hJ;refine jd ?_;have xX1:=X1.cell;have xX2:=X2.cell
  go_wp2_with fail
  refine(nFar HF.out).mono ?_;rintro ee w3 ⟨rfl,B⟩;clear xX1 xX2;replace HB:=Hqb HB B;clear B;have hw:=HW.out;go_wp2
  go_ret
  exact⟨rfl,HB.out⟩
theorem nx_out{D:Int}{s:Bool}{M E r:Int}(q:Fq D s M E r)(h0:D≠0):nx (!s) r=sgi s (min TP (plc D M E+1)):=by
 rw[<-q.2.2]
 have:=TP_eq
 have h1:=plc_pos q h0
 unfold nx
 cases s
 ·rfl
 ·show max (-TP) (-plc D M E-1)= -min TP (plc D M E+1)
  omega
theorem nx_in{D:Int}{s:Bool}{M E r:Int}(q:Fq D s M E r)(h0:D≠0):nx s r=sgi s (plc D M E-1):=by
 have hb:=q.bd
 have:=TP_eq
 have h1:=plc_pos q h0;rw[<-q.2.2]at hb|-
 unfold nx
 cases s
 ·show max (-TP) (plc D M E-1)=plc D M E-1
  omega
 ·show min TP (-plc D M E+1)= -(plc D M E-1)
  omega
theorem nOut_inf{w:World}{s:Bool}{r:Int}(hr:sgi s TP=r):Calls Tryz.prog 258 #[VQ 2 s 0 0] w (PN w r):=by
 delta VQ
 go_enter Tryz.func258,Tryz.ntmps258
 go_upto_region 1 with (fail)
 generalize hW1:(w.alloc _).alloc _=w1 at *;obtain⟨X1,XR,HB⟩:=Bo.en2 hW1;clear hW1;refine jk [0,1,2,3,4,5,6,7,8,9] [some 3,some 4,some 5,some 6,some 7,some 8,some 9,some 10,some 11,some 12] [[],[0],[1],[2],[3],[3],[3,5],[3,6],[3,4,7],[3,8]] 10 0 [Jo.qp w.heap.size 0,Jo.qi 2,Jo.qb true,Jo.qb true,Jo.qu,Jo.qu,Jo.qu,Jo.qu,Jo.qu,Jo.qb true] ?_ ?_
 ·refine jm ?_ ?_;rotate_left
  refine jm ?_ ?_
  ·rintro wj hJ _ rfl K hK;simp only[Jo.z]at hK|-;have xX10:=(X1.b hJ).a 0 (.int .i64 2) rfl;go_simp;exact hK.out _ _ rfl (br _ _)
  iterate 8 (refine jm ?_ ?_;rotate_left)
  exact jo
  all_goals (rintro wj hJ;(repeat rintro _ rfl);intro K hK;simp only[Jo.z]at hK|-;go_simp;exact hK.out _ _ rfl (br _ _))
 rintro w2 hJ _ _ _ rfl _ rfl _ rfl _ rfl _ rfl _ rfl _ rfl _ rfl _ rfl -;simp only[Jo.z];replace X1:=X1.b hJ;replace XR:=XR.b hJ;replace HB:=Hqb HB hJ;refine jd ?_;have xX1:=X1.cell
 go_wp2_with fail
 refine(nInf hr).mono ?_;rintro ee w3 ⟨D2,s2,M2,E2,rfl,q2,B⟩;clear xX1;replace X1:=X1.b B;replace XR:=XR.b B;replace HB:=Hqb HB B;clear B;have xXR:=XR.cell;have zXR0:=XR.frozen;have xX1:=X1.cell;go_wp2;clear xXR zXR0 xX1;have SX:=StN.t4 XR D2 s2 M2 E2
 exact bq (by simp[results,Tryz.results258,go_sem,SX.box.cell]) rfl ⟨_,_,_,_,rfl,q2,(SX.below HB.out (by omega))⟩
theorem nOut_huge{w:World}{s:Bool}{r:Int}(hr:sgi s TP=r):Calls Tryz.prog 258 #[VQ 1 s 18446744073709551615 1048576] w (PN w r):=by
 delta VQ
 go_enter Tryz.func258,Tryz.ntmps258
 go_upto_region 1 with (fail)
 generalize hW1:(w.alloc _).alloc _=w1 at *;obtain⟨X1,XR,HB⟩:=Bo.en2 hW1;clear hW1;refine jk [0,1,2,3,4,5,6,7,8,9] [some 3,some 4,some 5,some 6,some 7,some 8,some 9,some 10,some 11,some 12] [[],[0],[1],[2],[3],[3],[3,5],[3,6],[3,4,7],[3,8]] 10 0 [Jo.qp w.heap.size 0,Jo.qi 1,Jo.qb false,Jo.qb false,Jo.q4 1 s 18446744073709551615 1048576,Jo.qp w.heap.size 1,Jo.qb s,Jo.q4 1 s 18446744073709551615 1048576,Jo.qb true,Jo.qb true] ?_ ?_
 ·refine jm ?_ ?_;rotate_left
  refine jm ?_ ?_
  ·rintro wj hJ _ rfl K hK;simp only[Jo.z]at hK|-;have xX10:=(X1.b hJ).a 0 (.int .i64 1) rfl;go_simp;exact hK.out _ _ rfl (br _ _)
  iterate 4 (refine jm ?_ ?_;rotate_left)
  refine jm ?_ ?_
  ·rintro wj hJ _ rfl _ rfl K hK;simp only[Jo.z]at hK|-;have xX11:=(X1.b hJ).a 1 (.bool s) rfl;go_simp;exact hK.out _ _ rfl (br _ _)
  refine jm ?_ ?_
  ·rintro wj hJ _ rfl _ rfl K hK;simp only[Jo.z]at hK|-;go_simp;refine(nH).mono ?_;rintro ee wk ⟨rfl,B⟩;exact hK.out _ _ rfl B
  refine jm ?_ ?_
  ·rintro wj hJ _ rfl _ rfl _ rfl K hK;simp only[Jo.z]at hK|-;go_simp
   exact hK.out _ _ (by first | rfl | (show Value.bool _=Value.bool _;simp)) (br _ _)
  refine jm ?_ ?_;rotate_left
  exact jo
  all_goals (rintro wj hJ;(repeat rintro _ rfl);intro K hK;simp only[Jo.z]at hK|-;have xX1:=(X1.b hJ).cell;go_simp;exact hK.out _ _ rfl (br _ _))
 rintro w2 hJ _ _ _ rfl _ rfl _ rfl _ rfl _ _ _ rfl _ rfl _ rfl _ rfl -;simp only[Jo.z];replace X1:=X1.b hJ;replace XR:=XR.b hJ;replace HB:=Hqb HB hJ;refine jd ?_;have xX1:=X1.cell
 go_wp2_with fail
 refine(nInf hr).mono ?_;rintro ee w3 ⟨D2,s2,M2,E2,rfl,q2,B⟩;clear xX1;replace X1:=X1.b B;replace XR:=XR.b B;replace HB:=Hqb HB B;clear B;have xXR:=XR.cell;have zXR0:=XR.frozen;have xX1:=X1.cell;go_wp2;clear xXR zXR0 xX1;have SX:=StN.t4 XR D2 s2 M2 E2
 exact bq (by simp[results,Tryz.results258,go_sem,SX.box.cell]) rfl ⟨_,_,_,_,rfl,q2,(SX.below HB.out (by omega))⟩
theorem nOut_carry{w:World}{s:Bool}{E r:Int}(hF:Fq 1 s 9223372036854775808 (E+1) r)(h1: -1048576<=E)(h2:E < 1048576):Calls Tryz.prog 258 #[VQ 1 s 18446744073709551615 E] w (PN w r):=by
 delta VQ
 have hq:E≠1048576:=by omega
 have HW:=iw (E+1)
 go_enter Tryz.func258,Tryz.ntmps258
 go_upto_region 1 with (fail)
 generalize hW1:(w.alloc _).alloc _=w1 at *;obtain⟨X1,XR,HB⟩:=Bo.en2 hW1;clear hW1;refine jk [0,1,2,3,4,5,6,7,8,9] [some 3,some 4,some 5,some 6,some 7,some 8,some 9,some 10,some 11,some 12] [[],[0],[1],[2],[3],[3],[3,5],[3,6],[3,4,7],[3,8]] 10 0 [Jo.qp w.heap.size 0,Jo.qi 1,Jo.qb false,Jo.qb false,Jo.q4 1 s 18446744073709551615 E,Jo.qp w.heap.size 1,Jo.qb s,Jo.q4 1 s 18446744073709551615 1048576,Jo.qb false,Jo.qb false] ?_ ?_
 ·refine jm ?_ ?_;rotate_left
  refine jm ?_ ?_
  ·rintro wj hJ _ rfl K hK;simp only[Jo.z]at hK|-;have xX10:=(X1.b hJ).a 0 (.int .i64 1) rfl;go_simp;exact hK.out _ _ rfl (br _ _)
  iterate 4 (refine jm ?_ ?_;rotate_left)
  refine jm ?_ ?_
  ·rintro wj hJ _ rfl _ rfl K hK;simp only[Jo.z]at hK|-;have xX11:=(X1.b hJ).a 1 (.bool s) rfl;go_simp;exact hK.out _ _ rfl (br _ _)
  refine jm ?_ ?_
  ·rintro wj hJ _ rfl _ rfl K hK;simp only[Jo.z]at hK|-;go_simp;refine(nH).mono ?_;rintro ee wk ⟨rfl,B⟩;exact hK.out _ _ rfl B
  refine jm ?_ ?_
  ·rintro wj hJ _ rfl _ rfl _ rfl K hK;simp only[Jo.z]at hK|-;go_simp
   exact hK.out _ _ (by first | rfl | (show Value.bool _=Value.bool _;simp[hq])) (br _ _)
  refine jm ?_ ?_;rotate_left
  exact jo
  all_goals (rintro wj hJ;(repeat rintro _ rfl);intro K hK;simp only[Jo.z]at hK|-;have xX1:=(X1.b hJ).cell;go_simp;exact hK.out _ _ rfl (br _ _))
 rintro w2 hJ _ _ _ rfl _ rfl _ rfl _ rfl _ _ _ rfl _ rfl _ rfl _ rfl -;simp only[Jo.z];replace X1:=X1.b hJ;replace XR:=XR.b hJ;replace HB:=Hqb HB hJ;refine jd ?_;have xX1:=X1.cell;have zX10:=X1.frozen
 go_upto_region 5 with (fail)
 clear xX1 zX10
 have SX:StN w2 (World.setCell w2 ⟨w.heap.size,2,none⟩ (.int .u64 9223372036854775808)) _ _ #[.int .i64 1,.bool s,.int .u64 9223372036854775808,.int .i64 E] _:=StN.at4 X1 2 (.int .u64 9223372036854775808)
 replace XR:=XR.s SX;replace HB:=Hqs HB SX (by omega);replace X1:=SX.box;clear SX;generalize World.setCell w2 ⟨w.heap.size,2,none⟩ (.int .u64 9223372036854775808)=w3 at *;have xX1:=X1.cell;have zX10:=X1.frozen;have hw:=HW.out
 go_upto_region 6 with (fail)
 clear hw;clear xX1 zX10
 have SX:StN w3 (World.setCell w3 ⟨w.heap.size,3,none⟩ (.int .i64 (E+1))) _ _ #[.int .i64 1,.bool s,.int .u64 9223372036854775808,.int .i64 (E+1)] _:=StN.at4 X1 3 (.int .i64 (E+1))
 replace XR:=XR.s SX;replace HB:=Hqs HB SX (by omega);replace X1:=SX.box;clear SX;generalize World.setCell w3 ⟨w.heap.size,3,none⟩ (.int .i64 (E+1))=w4 at *;have xXR:=XR.cell;have zXR0:=XR.frozen;have xX1:=X1.cell;go_wp2;clear xXR zXR0 xX1;have SX:=StN.t4 XR 1 s 9223372036854775808 (E+1)
 exact bq (by simp[results,Tryz.results258,go_sem,SX.box.cell]) rfl ⟨_,_,_,_,rfl,hF,(SX.below HB.out (by omega))⟩
theorem nOut_plus{w:World}{s:Bool}{M E r:Int}(hF:Fq 1 s (M+1) E r)(h1:0<=M)(h2:M < 18446744073709551615):Calls Tryz.prog 258 #[VQ 1 s M E] w (PN w r):=by
 delta VQ
 have hq:M≠18446744073709551615:=by omega
 have e1:(M==18446744073709551615)=false:=by simpa using hq
 have HW:Hid (IntKind.u64.wrap (M+1)=M+1):=ie (IntWalk.u64_in _ (by omega))
 go_enter Tryz.func258,Tryz.ntmps258
 go_upto_region 1 with (fail)
 generalize hW1:(w.alloc _).alloc _=w1 at *;obtain⟨X1,XR,HB⟩:=Bo.en2 hW1;clear hW1;refine jk [0,1,2,3,4,5,6,7,8,9] [some 3,some 4,some 5,some 6,some 7,some 8,some 9,some 10,some 11,some 12] [[],[0],[1],[2],[3],[3],[3,5],[3,6],[3,4,7],[3,8]] 10 0 [Jo.qp w.heap.size 0,Jo.qi 1,Jo.qb false,Jo.qb false,Jo.q4 1 s M E,Jo.qp w.heap.size 1,Jo.qb s,Jo.q4 1 s 18446744073709551615 1048576,Jo.qb false,Jo.qb false] ?_ ?_
 ·refine jm ?_ ?_;rotate_left
  refine jm ?_ ?_
  ·rintro wj hJ _ rfl K hK;simp only[Jo.z]at hK|-;have xX10:=(X1.b hJ).a 0 (.int .i64 1) rfl;go_simp;exact hK.out _ _ rfl (br _ _)
  iterate 4 (refine jm ?_ ?_;rotate_left)
  refine jm ?_ ?_
  ·rintro wj hJ _ rfl _ rfl K hK;simp only[Jo.z]at hK|-;have xX11:=(X1.b hJ).a 1 (.bool s) rfl;go_simp;exact hK.out _ _ rfl (br _ _)
  refine jm ?_ ?_
  ·rintro wj hJ _ rfl _ rfl K hK;simp only[Jo.z]at hK|-;go_simp;refine(nH).mono ?_;rintro ee wk ⟨rfl,B⟩;exact hK.out _ _ rfl B
  refine jm ?_ ?_
  ·rintro wj hJ _ rfl _ rfl _ rfl K hK;simp only[Jo.z]at hK|-;go_simp
   exact hK.out _ _ (by first | rfl | (show Value.bool _=Value.bool _;simp[hq])) (br _ _)
  refine jm ?_ ?_;rotate_left
  exact jo
  all_goals (rintro wj hJ;(repeat rintro _ rfl);intro K hK;simp only[Jo.z]at hK|-;have xX1:=(X1.b hJ).cell;go_simp;exact hK.out _ _ rfl (br _ _))
 rintro w2 hJ _ _ _ rfl _ rfl _ rfl _ rfl _ _ _ rfl _ rfl _ rfl _ rfl -;simp only[Jo.z];replace X1:=X1.b hJ;replace XR:=XR.b hJ;replace HB:=Hqb HB hJ;refine jd ?_;have xX1:=X1.cell;have zX10:=X1.frozen;have hw:=HW.out
 go_upto_region 8 with (fail)
 clear hw;clear xX1 zX10
 have SX:StN w2 (World.setCell w2 ⟨w.heap.size,2,none⟩ (.int .u64 (M+1))) _ _ #[.int .i64 1,.bool s,.int .u64 (M+1),.int .i64 E] _:=StN.at4 X1 2 (.int .u64 (M+1))
 replace XR:=XR.s SX;replace HB:=Hqs HB SX (by omega);replace X1:=SX.box;clear SX;generalize World.setCell w2 ⟨w.heap.size,2,none⟩ (.int .u64 (M+1))=w3 at *;have xXR:=XR.cell;have zXR0:=XR.frozen;have xX1:=X1.cell;go_wp2;clear xXR zXR0 xX1;have SX:=StN.t4 XR 1 s (M+1) E
 exact bq (by simp[results,Tryz.results258,go_sem,SX.box.cell]) rfl ⟨_,_,_,_,rfl,hF,(SX.below HB.out (by omega))⟩
theorem nOut{w:World}{D:Int}{s:Bool}{M E x r:Int}(q:Fq D s M E x)(h0:D≠0)(hr:nx (!s) x=r):Calls Tryz.prog 258 #[VQ D s M E] w (PN w r):=by
 delta VQ
 rw[nx_out q h0]at hr
 have:=TP_eq
 rcases q.plc h0 with⟨rfl,h1,h2,h3,h4,h5⟩ | ⟨rfl,rfl,rfl,h5⟩ <;> rw[h5]at hr
 ·by_cases hm:M=18446744073709551615
  ·subst hm
   by_cases he:E=1048576
   ·subst he;exact nOut_huge hr
   ·refine nOut_carry (Fq.fin (by decide) (by decide) (by omega) (by omega) ?_) h3 (by omega);rw[<-hr]
    congr 1
    omega
  ·refine nOut_plus (Fq.fin (by omega) (by omega) h3 h4 ?_) (by omega) (by omega);rw[<-hr]
   congr 1
   omega
 ·exact nOut_inf hr
theorem nIn_inf{w:World}{s:Bool}{r:Int}(hF:Fq 1 s 18446744073709551615 1048576 r):Calls Tryz.prog 257 #[VQ 2 s 0 0] w (PN w r):=by
 delta VQ
 go_enter Tryz.func257,Tryz.ntmps257
 go_upto_region 1 with (fail)
 generalize hW1:(w.alloc _).alloc _=w1 at *;obtain⟨X1,XR,HB⟩:=Bo.en2 hW1;clear hW1;have xX1:=X1.cell
 go_wp2_with fail
 refine(nH (s:=s)).mono ?_;rintro ee w3 ⟨rfl,B⟩;clear xX1;replace X1:=X1.b B;replace XR:=XR.b B;replace HB:=Hqb HB B;clear B;have xXR:=XR.cell;have zXR0:=XR.frozen;have xX1:=X1.cell;go_wp2;clear xXR zXR0 xX1;have SX:=StN.t4 XR 1 s 18446744073709551615 1048576
 exact bq (by simp[results,Tryz.results257,go_sem,SX.box.cell]) rfl ⟨_,_,_,_,rfl,hF,(SX.below HB.out (by omega))⟩
theorem nIn_tiny{w:World}{s:Bool}{r:Int}(hr:0=r):Calls Tryz.prog 257 #[.agg #[.int .i64 1,.bool s,.int .u64 9223372036854775808,.int .i64 (-1048576)]] w (PN w r):=by
 subst hr
 go_enter Tryz.func257,Tryz.ntmps257
 go_upto_region 1 with (fail)
 generalize hW1:(w.alloc _).alloc _=w1 at *;obtain⟨X1,XR,HB⟩:=Bo.en2 hW1;clear hW1;have xX1:=X1.cell
 go_upto_region 3 with (fail)
 clear xX1;refine jk [0,1,2,3,4] [some 9,some 10,some 11,some 12,some 13] [[],[],[1],[2],[0,3]] 5 0 [Jo.Fact.eq (.agg #[.int .i64 1,.bool s,.int .u64 9223372036854775808,.int .i64 (-1048576)]),Jo.qp w.heap.size 1,Jo.qb s,Jo.Fact.eq (.agg #[.int .i64 1,.bool s,.int .u64 9223372036854775808,.int .i64 (-1048576)]),Jo.qb true] ?_ ?_
 ·iterate 2 (refine jm ?_ ?_;rotate_left)
  refine jm ?_ ?_
  ·rintro wj hJ _ rfl K hK;simp only[Jo.z]at hK|-;have xX11:=(X1.b hJ).a 1 (.bool s) rfl;go_simp;exact hK.out _ _ rfl (br _ _)
  refine jm ?_ ?_
  ·rintro wj hJ _ rfl K hK;simp only[Jo.z]at hK|-;go_simp;refine(nT).mono ?_;rintro ee wk ⟨rfl,B⟩;exact hK.out _ _ rfl B
  refine jm ?_ ?_
  ·rintro wj hJ _ rfl _ rfl K hK;simp only[Jo.z]at hK|-;go_simp
   exact hK.out _ _ (by first | rfl | (show Value.bool _=Value.bool _;simp)) (br _ _)
  exact jo
  all_goals (rintro wj hJ;(repeat rintro _ rfl);intro K hK;simp only[Jo.z]at hK|-;have xX1:=(X1.b hJ).cell;go_simp;exact hK.out _ _ rfl (br _ _))
 rintro w2 hJ _ rfl _ _ _ rfl _ rfl _ rfl -;simp only[Jo.z];replace X1:=X1.b hJ;replace XR:=XR.b hJ;replace HB:=Hqb HB hJ;refine jd ?_;have xXR:=XR.cell;have zXR0:=XR.frozen;have xX1:=X1.cell;go_wp2;clear xXR zXR0 xX1;have SX:=StN.t4 XR 0 false 0 0
 exact bq (by simp[results,Tryz.results257,go_sem,SX.box.cell]) rfl ⟨_,_,_,_,rfl,Fq.nought,(SX.below HB.out (by omega))⟩
theorem nIn_carry{w:World}{s:Bool}{E r:Int}(hF:Fq 1 s 18446744073709551615 (E-1) r)(h1: -1048576 < E)(h2:E<=1048576):Calls Tryz.prog 257 #[VQ 1 s 9223372036854775808 E] w (PN w r):=by
 delta VQ
 have hq:E≠ -1048576:=by omega
 have HW:=iw (E-1)
 go_enter Tryz.func257,Tryz.ntmps257
 go_upto_region 1 with (fail)
 generalize hW1:(w.alloc _).alloc _=w1 at *;obtain⟨X1,XR,HB⟩:=Bo.en2 hW1;clear hW1;have xX1:=X1.cell
 go_upto_region 3 with (fail)
 clear xX1;refine jk [0,1,2,3,4] [some 9,some 10,some 11,some 12,some 13] [[],[],[1],[2],[0,3]] 5 0 [Jo.q4 1 s 9223372036854775808 E,Jo.qp w.heap.size 1,Jo.qb s,Jo.Fact.eq (.agg #[.int .i64 1,.bool s,.int .u64 9223372036854775808,.int .i64 (-1048576)]),Jo.qb false] ?_ ?_
 ·iterate 2 (refine jm ?_ ?_;rotate_left)
  refine jm ?_ ?_
  ·rintro wj hJ _ rfl K hK;simp only[Jo.z]at hK|-;have xX11:=(X1.b hJ).a 1 (.bool s) rfl;go_simp;exact hK.out _ _ rfl (br _ _)
  refine jm ?_ ?_
  ·rintro wj hJ _ rfl K hK;simp only[Jo.z]at hK|-;go_simp;refine(nT).mono ?_;rintro ee wk ⟨rfl,B⟩;exact hK.out _ _ rfl B
  refine jm ?_ ?_
  ·rintro wj hJ _ rfl _ rfl K hK;simp only[Jo.z]at hK|-;go_simp
   exact hK.out _ _ (by first | rfl | (show Value.bool _=Value.bool _;simp[hq])) (br _ _)
  exact jo
  all_goals (rintro wj hJ;(repeat rintro _ rfl);intro K hK;simp only[Jo.z]at hK|-;have xX1:=(X1.b hJ).cell;go_simp;exact hK.out _ _ rfl (br _ _))
 rintro w2 hJ _ rfl _ _ _ rfl _ rfl _ rfl -;simp only[Jo.z];replace X1:=X1.b hJ;replace XR:=XR.b hJ;replace HB:=Hqb HB hJ;refine jd ?_;have xX1:=X1.cell;have zX10:=X1.frozen
 go_upto_region 7 with (fail)
 clear xX1 zX10
 have SX:StN w2 (World.setCell w2 ⟨w.heap.size,2,none⟩ (.int .u64 18446744073709551615)) _ _ #[.int .i64 1,.bool s,.int .u64 18446744073709551615,.int .i64 E] _:=StN.at4 X1 2 (.int .u64 18446744073709551615)
 replace XR:=XR.s SX;replace HB:=Hqs HB SX (by omega);replace X1:=SX.box;clear SX;generalize World.setCell w2 ⟨w.heap.size,2,none⟩ (.int .u64 18446744073709551615)=w3 at *;have xX1:=X1.cell;have zX10:=X1.frozen;have hw:=HW.out
 go_upto_region 8 with (fail)
 clear hw;clear xX1 zX10
 have SX:StN w3 (World.setCell w3 ⟨w.heap.size,3,none⟩ (.int .i64 (E-1))) _ _ #[.int .i64 1,.bool s,.int .u64 18446744073709551615,.int .i64 (E-1)] _:=StN.at4 X1 3 (.int .i64 (E-1))
 replace XR:=XR.s SX;replace HB:=Hqs HB SX (by omega);replace X1:=SX.box;clear SX;generalize World.setCell w3 ⟨w.heap.size,3,none⟩ (.int .i64 (E-1))=w4 at *;have xXR:=XR.cell;have zXR0:=XR.frozen;have xX1:=X1.cell;go_wp2;clear xXR zXR0 xX1;have SX:=StN.t4 XR 1 s 18446744073709551615 (E-1)
 exact bq (by simp[results,Tryz.results257,go_sem,SX.box.cell]) rfl ⟨_,_,_,_,rfl,hF,(SX.below HB.out (by omega))⟩
theorem nIn_less{w:World}{s:Bool}{M E r:Int}(hF:Fq 1 s (M-1) E r)(h1:9223372036854775808 < M)(h2:M<=18446744073709551615):Calls Tryz.prog 257 #[VQ 1 s M E] w (PN w r):=by
 delta VQ
 have hq:M≠9223372036854775808:=by omega
 have e1:(M==9223372036854775808)=false:=by simpa using hq
 have HW:Hid (IntKind.u64.wrap (M-1)=M-1):=ie (IntWalk.u64_in _ (by omega))
 go_enter Tryz.func257,Tryz.ntmps257
 go_upto_region 1 with (fail)
 generalize hW1:(w.alloc _).alloc _=w1 at *;obtain⟨X1,XR,HB⟩:=Bo.en2 hW1;clear hW1;have xX1:=X1.cell
 go_upto_region 3 with (fail)
 clear xX1;refine jk [0,1,2,3,4] [some 9,some 10,some 11,some 12,some 13] [[],[],[1],[2],[0,3]] 5 0 [Jo.q4 1 s M E,Jo.qp w.heap.size 1,Jo.qb s,Jo.Fact.eq (.agg #[.int .i64 1,.bool s,.int .u64 9223372036854775808,.int .i64 (-1048576)]),Jo.qb false] ?_ ?_
 ·iterate 2 (refine jm ?_ ?_;rotate_left)
  refine jm ?_ ?_
  ·rintro wj hJ _ rfl K hK;simp only[Jo.z]at hK|-;have xX11:=(X1.b hJ).a 1 (.bool s) rfl;go_simp;exact hK.out _ _ rfl (br _ _)
  refine jm ?_ ?_
  ·rintro wj hJ _ rfl K hK;simp only[Jo.z]at hK|-;go_simp;refine(nT).mono ?_;rintro ee wk ⟨rfl,B⟩;exact hK.out _ _ rfl B
  refine jm ?_ ?_
  ·rintro wj hJ _ rfl _ rfl K hK;simp only[Jo.z]at hK|-;go_simp
   exact hK.out _ _ (by first | rfl | (show Value.bool _=Value.bool _;simp[hq])) (br _ _)
  exact jo
  all_goals (rintro wj hJ;(repeat rintro _ rfl);intro K hK;simp only[Jo.z]at hK|-;have xX1:=(X1.b hJ).cell;go_simp;exact hK.out _ _ rfl (br _ _))
 rintro w2 hJ _ rfl _ _ _ rfl _ rfl _ rfl -;simp only[Jo.z];replace X1:=X1.b hJ;replace XR:=XR.b hJ;replace HB:=Hqb HB hJ;refine jd ?_;have xX1:=X1.cell;have zX10:=X1.frozen;have hw:=HW.out
 go_upto_region 10 with (fail)
 clear hw;clear xX1 zX10
 have SX:StN w2 (World.setCell w2 ⟨w.heap.size,2,none⟩ (.int .u64 (M-1))) _ _ #[.int .i64 1,.bool s,.int .u64 (M-1),.int .i64 E] _:=StN.at4 X1 2 (.int .u64 (M-1))
 replace XR:=XR.s SX;replace HB:=Hqs HB SX (by omega);replace X1:=SX.box;clear SX;generalize World.setCell w2 ⟨w.heap.size,2,none⟩ (.int .u64 (M-1))=w3 at *;have xXR:=XR.cell;have zXR0:=XR.frozen;have xX1:=X1.cell;go_wp2;clear xXR zXR0 xX1;have SX:=StN.t4 XR 1 s (M-1) E
 exact bq (by simp[results,Tryz.results257,go_sem,SX.box.cell]) rfl ⟨_,_,_,_,rfl,hF,(SX.below HB.out (by omega))⟩
theorem nIn{w:World}{D:Int}{s:Bool}{M E x r:Int}(q:Fq D s M E x)(h0:D≠0)(hr:nx s x=r):Calls Tryz.prog 257 #[VQ D s M E] w (PN w r):=by
 delta VQ
 rw[nx_in q h0]at hr
 have:=TP_eq
 rcases q.plc h0 with⟨rfl,h1,h2,h3,h4,h5⟩ | ⟨rfl,rfl,rfl,h5⟩ <;> rw[h5]at hr
 ·by_cases hm:M=9223372036854775808
  ·subst hm
   by_cases he:E= -1048576
   ·subst he;refine nIn_tiny (hr▸?_)
    cases s <;> rfl
   ·refine nIn_carry (Fq.fin (by decide) (by decide) (by omega) (by omega) ?_) (by omega) h4;rw[<-hr]
    congr 1
    omega
  ·refine nIn_less (Fq.fin (by omega) (by omega) h3 h4 ?_) (by omega) (by omega);rw[<-hr]
   congr 1
   omega
 ·refine nIn_inf (Fq.fin (by decide) (by decide) (by decide) (by decide) ?_);rw[<-hr]
  rfl
theorem nNext{w:World}{D M E:Int}{s:Bool}{up:Bool}{r:Int}(hM:LQ M)(hr:nx up (rk D s M E)=r):Calls Tryz.prog 233 #[VQ D s M E,.bool up] w (PN w r):=by
 delta VQ
 obtain⟨x,hx⟩:∃x,rk D s M E=x:=⟨_,rfl⟩;rw[hx]at hr;have HX:=ie hx;have HR:=ie hr;clear hx hr
 go_enter Tryz.func233,Tryz.ntmps233
 go_upto_region 1 with (fail)
 generalize hW1:(w.alloc _).alloc _=w1 at *;obtain⟨X1,XR,HB⟩:=Bo.en2 hW1;clear hW1;have xX1:=X1.cell
 go_wp2_with fail
 refine(nTaken hM HX.out).mono ?_;rintro ee w2 ⟨K1,s1,M1,E1,rfl,q1,B⟩;clear xX1;replace X1:=X1.b B;replace XR:=XR.b B;replace HB:=Hqb HB B;clear B;have xX1:=X1.cell;have zX10:=X1.frozen
 go_upto_region 2 with (fail)
 clear xX1 zX10;generalize hS:(((w2.setCell _ _).setCell _ _).setCell _ _).setCell _ _=w3 at *;have SX:=StN.of4 X1 hS;replace XR:=XR.s SX;replace HB:=Hqs HB SX (by omega);replace X1:=SX.box;clear SX hS
 by_cases h0:K1=0
 ·subst h0;have hz:=q1.zero_iff.1 rfl;subst hz
  have hF:Fq 1 (!up) 9223372036854775808 (-1048576) r:=Fq.fin (by decide) (by decide) (by decide) (by decide) (by rw[<-HR.out];cases up <;> rfl)
  clear q1;have xX1:=X1.cell
  go_wp2_with fail
  refine(nT).mono ?_;rintro ee w4 ⟨rfl,B⟩;clear xX1;replace X1:=X1.b B;replace XR:=XR.b B;replace HB:=Hqb HB B;clear B;have xXR:=XR.cell;have zXR0:=XR.frozen;have xX1:=X1.cell;go_wp2;clear xXR zXR0 xX1;have SX:=StN.t4 XR 1 (!up) 9223372036854775808 (-1048576)
  exact bq (by simp[results,Tryz.results233,go_sem,SX.box.cell]) rfl ⟨_,_,_,_,rfl,hF,(SX.below HB.out (by omega))⟩
 ·have e0:(K1==0)=false:=by simpa using h0
  by_cases hs:s1=up
  ·subst hs;have xX1:=X1.cell
   go_wp2_with fail
   refine(nIn q1 h0 HR.out).mono ?_;rintro ee w4 ⟨K2,s2,M2,E2,rfl,q2,B⟩;clear xX1;replace X1:=X1.b B;replace XR:=XR.b B;replace HB:=Hqb HB B;clear B;have xXR:=XR.cell;have zXR0:=XR.frozen;have xX1:=X1.cell;go_wp2;clear xXR zXR0 xX1;have SX:=StN.t4 XR K2 s2 M2 E2
   exact bq (by simp[results,Tryz.results233,go_sem,SX.box.cell]) rfl ⟨_,_,_,_,rfl,q2,(SX.below HB.out (by omega))⟩
  ·obtain rfl:(!s1)=up:=by cases s1 <;> cases up <;> first | rfl | exact absurd rfl hs
   clear hs
   have e2:(s1==!s1)=false:=by cases s1 <;> rfl
   have xX1:=X1.cell
   go_wp2_with fail
   refine(nOut q1 h0 HR.out).mono ?_;rintro ee w4 ⟨K2,s2,M2,E2,rfl,q2,B⟩;clear xX1;replace X1:=X1.b B;replace XR:=XR.b B;replace HB:=Hqb HB B;clear B;have xXR:=XR.cell;have zXR0:=XR.frozen;have xX1:=X1.cell;go_wp2;clear xXR zXR0 xX1;have SX:=StN.t4 XR K2 s2 M2 E2
   exact bq (by simp[results,Tryz.results233,go_sem,SX.box.cell]) rfl ⟨_,_,_,_,rfl,q2,(SX.below HB.out (by omega))⟩
def fin (s:Bool)(M E:Int)(aw:Bool):Int:=sgi s (if 1048576 < E then (if aw=true then TP else TP-1)else if E < -1048576 then (if aw=true then 1 else 0)else M-9223372036854775808+1+(E+1048576)*9223372036854775808)
def tp (m:Nat):Nat:=m*2^64/2^blen m
theorem tp_ge{m:Nat}(h:m≠0):2^63<=tp m:=by
 unfold tp
 have h1:=blen_le h
 have h2:blen m≠0:=fun e=>h (blen_eq_zero.1 e)
 obtain⟨k,hk⟩:∃k,blen m=k+1:=⟨blen m-1,by omega⟩
 rw[hk]at h1|-;rw[Nat.le_div_iff_mul_le (Nat.pow_pos (by decide)),Nat.pow_succ,Nat.add_sub_cancel]at *
 have:=Nat.mul_le_mul_right (2^64) h1
 calc 2^63*(2^k*2)=2^k*2^64:=by rw[show (2:Nat)^64=2^63*2 by decide,Nat.mul_comm (2^63) (2^k*2),Nat.mul_assoc,Nat.mul_comm 2 (2^63)]
  _<=m*2^64:=this
theorem tp_lt (m:Nat):tp m < 2^64:=by
 unfold tp
 rw[Nat.div_lt_iff_lt_mul (Nat.pow_pos (by decide)),Nat.mul_comm (2^64)];exact Nat.mul_lt_mul_of_pos_right (blen_lt m) (Nat.pow_pos (by decide))
theorem blen_mul{m:Nat}(h:m≠0)(t:Nat):blen (m*2^t)=blen m+t:=by
 have:=blen_shift (m*2^t) t (Nat.le_mul_of_pos_left _ (by omega))
 rw[Nat.mul_div_cancel _ (Nat.pow_pos (by decide))]at this
 omega
theorem tp_mul{m:Nat}(h:m≠0)(t:Nat):tp (m*2^t)=tp m:=by
 unfold tp
 rw[blen_mul h,Nat.pow_add,Nat.mul_right_comm m,Nat.mul_div_mul_right _ _ (Nat.pow_pos (by decide))]
theorem tp_big{m:Nat}(h:64<=blen m):tp m=m/2^(blen m-64):=by
 unfold tp
 rw[show 2^blen m=2^(blen m-64)*2^64 by rw[<-Nat.pow_add];congr 1;omega,Nat.mul_div_mul_right _ _ (Nat.pow_pos (by decide))]
theorem tp_small{m:Nat}(h:blen m<=64):tp m=m*2^(64-blen m):=by
 unfold tp
 rw[show 2^64=2^(64-blen m)*2^blen m by rw[<-Nat.pow_add];congr 1;omega,<-Nat.mul_assoc,Nat.mul_div_cancel _ (Nat.pow_pos (by decide))]
def xp (m:Nat)(E:Int):Int:=E+(blen m:Nat)-64
def lo (m:Nat)(E:Int):Int:=
 if m=0 then 0 else if 1048576 < xp m E then 19342822337206103650074624 else if xp m E < -1048576 then 0 else (tp m:Int)-9223372036854775808+1+(xp m E+1048576)*9223372036854775808
def ext (m:Nat)(E:Int):Bool:=m==0 || (decide (xp m E<=1048576) && (decide (-1048576<=xp m E) && decide (blen m<=64)))
def hi (m:Nat)(E:Int):Int:=if ext m E=true then lo m E else lo m E+1
def rnd (up:Bool)(N E:Int):Int:=sgi (decide (N < 0)) (if (up !=decide (N < 0))=true then hi N.natAbs E else lo N.natAbs E)
theorem lo_mul{m:Nat}(h:m≠0)(t:Nat)(E:Int):lo (m*2^t) E=lo m (E+t):=by
 have h2:m*2^t≠0:=Nat.mul_ne_zero h (Nat.ne_of_gt (Nat.pow_pos (by decide)))
 unfold lo
 rw[if_neg h,if_neg h2,tp_mul h]
 unfold xp
 rw[blen_mul h,show E+((blen m+t:Nat):Int)-64=E+(t:Int)+(blen m:Nat)-64 by omega]
theorem lo_bd (m:Nat)(E:Int):0<=lo m E/\lo m E<=19342822337206103650074624:=by
 unfold lo
 have h1:=tp_lt m
 by_cases h:m=0
 ·rw[if_pos h];omega
 ·rw[if_neg h];have h0:=tp_ge h
  by_cases h3:1048576 < xp m E
  ·rw[if_pos h3];omega
  ·rw[if_neg h3]
   by_cases h4:xp m E < -1048576
   ·rw[if_pos h4];omega
   ·rw[if_neg h4]
    omega
theorem hi_bd (m:Nat)(E:Int):lo m E<=hi m E/\hi m E<=lo m E+1:=by
 unfold hi
 split <;> omega
def vp (r:Int):Int:=if r<=0 then 0 else ((r-1)%9223372036854775808+9223372036854775808)*2^((r-1) /9223372036854775808-1048576+KK).toNat
def vr (r:Int):Int:=if r < 0 then -vp (-r)else vp r
theorem vp_fin{M E:Int}(h1:9223372036854775808<=M)(h2:LQ M)(h3: -1048576<=E):vp (M-9223372036854775808+1+(E+1048576)*9223372036854775808)=M*2^(E+KK).toNat:=by
 unfold vp
 rw[if_neg (by omega)]
 have e1:(M-9223372036854775808+1+(E+1048576)*9223372036854775808-1)%9223372036854775808+9223372036854775808=M:=by omega
 have e2:(M-9223372036854775808+1+(E+1048576)*9223372036854775808-1) /9223372036854775808-1048576=E:=by omega
 rw[e1,e2]
theorem vp_succ{r:Int}(h:0<=r):vp r < vp (r+1):=by
 by_cases h0:r=0
 ·subst h0
  have:vp 0=0:=rfl
  rw[this]
  unfold vp
  rw[if_neg (by omega)];exact Int.mul_pos (by omega) (p2pos _)
 ·obtain⟨q,m,hm,hm2,e⟩:∃q m:Int,9223372036854775808<=m/\m < 18446744073709551616/\r=m-9223372036854775808+1+(q+1048576)*9223372036854775808:=⟨(r-1) /9223372036854775808-1048576,(r-1)%9223372036854775808+9223372036854775808,by omega,by omega,by omega⟩
  have hq: -1048576<=q:=by omega
  have e0:=vp_fin hm hm2 hq;rw[<-e]at e0;rw[e0]
  by_cases hc:m=18446744073709551615
  ·have e1:=vp_fin (M:=9223372036854775808) (E:=q+1) (by omega) (by omega) (by omega)
   rw[show (9223372036854775808:Int)-9223372036854775808+1+(q+1+1048576)*9223372036854775808=r+1 by omega]at e1
   rw[e1,show (q+1+(KK:Int)).toNat=(q+KK).toNat+1 by rw[KK_eq];omega,Int.pow_succ,hc,<-Int.mul_assoc,Int.mul_right_comm]
   exact Int.mul_lt_mul_of_pos_right (by omega) (p2pos _)
  ·have e1:=vp_fin (M:=m+1) (E:=q) (by omega) (by omega) hq
   rw[show m+1-9223372036854775808+1+(q+1048576)*9223372036854775808=r+1 by omega]at e1
   rw[e1];exact Int.mul_lt_mul_of_pos_right (by omega) (p2pos _)
theorem vr_succ (r:Int):vr r < vr (r+1):=by
 unfold vr
 by_cases h:0<=r
 ·rw[if_neg (by omega),if_neg (by omega)];exact vp_succ h
 ·rw[if_pos (by omega)]
  have:=vp_succ (r:= -(r+1)) (by omega)
  rw[show -(r+1)+1= -r by omega]at this
  by_cases h2:r+1 < 0
  ·rw[if_pos h2]
   omega
  ·rw[if_neg h2]
   have e:r+1=0:=by omega
   rw[e]at this|-
   rw[show vp (-0)=0 from rfl]at this
   rw[show vp 0=0 from rfl]
   omega
theorem vr_add (r:Int):∀n:Nat,vr r < vr (r+(n+1:Nat))
 | 0=>vr_succ r
 | n+1=>by
  have h1:=vr_add r n;have h2:=vr_succ (r+(n+1:Nat))
  rw[show r+((n+1+1:Nat):Int)=r+((n+1:Nat):Int)+1 by omega]
  omega
theorem vr_lt{r t:Int}(h:r < t):vr r < vr t:=by
 have:=vr_add r (t-r-1).toNat
 rwa [show r+(((t-r-1).toNat+1:Nat):Int)=t by omega]at this
theorem vr_cmp (r t:Int):cmpI (vr r) (vr t)=cmpI r t:=by
 rcases cmpI_tri r t with⟨a1,a2⟩ | ⟨a1,a2⟩ | ⟨a1,a2⟩ <;> rw[a2]
 ·exact cmpI_lt (vr_lt a1)
 ·exact cmpI_eq (by rw[a1])
 ·exact cmpI_gt (vr_lt a1)
theorem vr_neg (r:Int):vr (-r)= -vr r:=by
 unfold vr
 by_cases h:r < 0
 ·rw[if_neg (by omega),if_pos h,Int.neg_neg]
 ·by_cases h2:r=0
  ·subst h2;rfl
  ·rw[if_pos (by omega),if_neg h,Int.neg_neg]
theorem vr_sgi (s:Bool)(r:Int):vr (sgi s r)=sgi s (vr r):=by
 cases s
 ·rfl
 ·exact vr_neg r
theorem lo_vr{m:Nat}{E:Int}(h:m≠0)(h1:xp m E<=1048576)(h2: -1048576<=xp m E)(hE: -(KK:Int)<=E)(ho:m%2=1):
  vr (lo m E)<=(m:Int)*2^(E+KK).toNat/\(m:Int)*2^(E+KK).toNat < vr (lo m E+1)/\(ext m E=true->vr (lo m E)=(m:Int)*2^(E+KK).toNat)/\(ext m E=false->vr (lo m E) < (m:Int)*2^(E+KK).toNat):=by
 have t1:=tp_ge h;have t2:=tp_lt m;have hk:=KK_eq
 have hb:0<=lo m E:=(lo_bd m E).1
 have el:lo m E=(tp m:Int)-9223372036854775808+1+(xp m E+1048576)*9223372036854775808:=by
  unfold lo
  rw[if_neg h,if_neg (by omega),if_neg (by omega)]
 have ev:vr (lo m E)=(tp m:Int)*2^(xp m E+KK).toNat:=by
  unfold vr
  rw[if_neg (by omega),el];exact vp_fin (by omega) (by omega) h2
 have ex:ext m E=decide (blen m<=64):=by
  unfold ext
  rw[show (m==0)=false by simpa using h,dt h1,dt h2]
  rfl
 have en:vr (lo m E+1)=((tp m:Int)+1)*2^(xp m E+KK).toNat:=by
  unfold vr
  rw[if_neg (by omega),el]
  by_cases hc:(tp m:Int)=18446744073709551615
  ·have e1:=vp_fin (M:=9223372036854775808) (E:=xp m E+1) (by omega) (by omega) (by omega)
   rw[show (tp m:Int)-9223372036854775808+1+(xp m E+1048576)*9223372036854775808+1=(9223372036854775808:Int)-9223372036854775808+1+(xp m E+1+1048576)*9223372036854775808 by omega,e1,show (xp m E+1+(KK:Int)).toNat=(xp m E+KK).toNat+1 by omega,Int.pow_succ,hc,<-Int.mul_assoc,Int.mul_right_comm]
   rfl
  ·have e1:=vp_fin (M:=(tp m:Int)+1) (E:=xp m E) (by omega) (by omega) h2
   rw[show (tp m:Int)-9223372036854775808+1+(xp m E+1048576)*9223372036854775808+1=(tp m:Int)+1-9223372036854775808+1+(xp m E+1048576)*9223372036854775808 by omega,e1]
 rw[ev,en,ex]
 by_cases hl:blen m<=64
 ·have e1:(m:Int)*2^(E+KK).toNat=(tp m:Int)*2^(xp m E+KK).toNat:=by
   have hx:(xp m E+KK).toNat+(64-blen m)=(E+KK).toNat:=by unfold xp at h2|-;omega
   rw[tp_small hl,<-hx,Int.pow_add]
   push_cast
   rw[Int.mul_assoc,Int.mul_comm (2^(64-blen m))]
  have hp:=p2pos (xp m E+KK).toNat;rw[e1,dt hl]
  refine⟨Int.le_refl _,Int.mul_lt_mul_of_pos_right (by omega) hp,fun _=>rfl,fun h=>by cases h⟩
 ·have hd:=Nat.div_add_mod m (2^(blen m-64))
  have hm:=Nat.mod_lt m (Nat.pow_pos (n:=blen m-64) (show 0 < 2 by decide))
  have hne:m%2^(blen m-64)≠0:=by
   intro e
   have:2 ∣ m:=Nat.dvd_trans (show 2 ∣ 2^(blen m-64)from ⟨2^(blen m-64-1),by rw[<-Nat.pow_succ'];congr 1;omega⟩) (Nat.dvd_of_mod_eq_zero e)
   omega
  rw[<-tp_big (by omega)]at hd
  have e1:(2:Int)^(xp m E+KK).toNat=2^(blen m-64)*2^(E+KK).toNat:=by
   rw[<-Int.pow_add]
   congr 1
   unfold xp
   omega
  have hp:=p2pos (E+KK).toNat
  have c1:(tp m:Int)*2^(blen m-64) < (m:Int):=by
   have:tp m*2^(blen m-64) < m:=by rw[Nat.mul_comm];omega
   exact_mod_cast this
  have c2:(m:Int) < ((tp m:Int)+1)*2^(blen m-64):=by
   have:m < (tp m+1)*2^(blen m-64):=by rw[Nat.mul_comm,Nat.mul_add,Nat.mul_one];omega
   exact_mod_cast this
  have l1:=Int.mul_lt_mul_of_pos_right c1 hp;have l2:=Int.mul_lt_mul_of_pos_right c2 hp;rw[Int.mul_assoc]at l1 l2;rw[e1,df hl]
  exact⟨Int.le_of_lt l1,l2,fun h=>(by cases h),fun _=>l1⟩
theorem len64_111 (z:Int)(q:Nat)(w:World)(h0:0<=z)(hz:z<=18446744073709551615)(h1:4294967296<=z)(h2:65536<=z/4294967296)(h3:256<=z/4294967296/65536)(hq:q<=8)
  (hi:∀W,(Instr.index 9 (.string Lib.len8tab) (.int .u8 (z/4294967296/65536/256))).run Tryz.prog W= .ok (.int .u8 (q:Int)) W):
  Calls Tryz.prog 184 #[.int .u64 z] w fun e w'=>e= .returned (.int .i64 (56+q:Int))/\w=w':=by
 go_enter Tryz.func184,Tryz.ntmps184
 go_wp2
 go_ret
 exact⟨rfl,rfl⟩
theorem len64_110 (z:Int)(q:Nat)(w:World)(h0:0<=z)(hz:z<=18446744073709551615)(h1:4294967296<=z)(h2:65536<=z/4294967296)(h3:z/4294967296/65536 < 256)(hq:q<=8)
  (hi:∀W,(Instr.index 9 (.string Lib.len8tab) (.int .u8 (z/4294967296/65536))).run Tryz.prog W= .ok (.int .u8 (q:Int)) W):
  Calls Tryz.prog 184 #[.int .u64 z] w fun e w'=>e= .returned (.int .i64 (48+q:Int))/\w=w':=by
 go_enter Tryz.func184,Tryz.ntmps184
 go_wp2
 go_ret
 exact⟨rfl,rfl⟩
theorem len64_101 (z:Int)(q:Nat)(w:World)(h0:0<=z)(hz:z<=18446744073709551615)(h1:4294967296<=z)(h2:z/4294967296 < 65536)(h3:256<=z/4294967296)(hq:q<=8)
  (hi:∀W,(Instr.index 9 (.string Lib.len8tab) (.int .u8 (z/4294967296/256))).run Tryz.prog W= .ok (.int .u8 (q:Int)) W):
  Calls Tryz.prog 184 #[.int .u64 z] w fun e w'=>e= .returned (.int .i64 (40+q:Int))/\w=w':=by
 go_enter Tryz.func184,Tryz.ntmps184
 go_wp2
 go_ret
 exact⟨rfl,rfl⟩
theorem len64_100 (z:Int)(q:Nat)(w:World)(h0:0<=z)(hz:z<=18446744073709551615)(h1:4294967296<=z)(h2:z/4294967296 < 65536)(h3:z/4294967296 < 256)(hq:q<=8)
  (hi:∀W,(Instr.index 9 (.string Lib.len8tab) (.int .u8 (z/4294967296))).run Tryz.prog W= .ok (.int .u8 (q:Int)) W):
  Calls Tryz.prog 184 #[.int .u64 z] w fun e w'=>e= .returned (.int .i64 (32+q:Int))/\w=w':=by
 go_enter Tryz.func184,Tryz.ntmps184
 go_wp2
 go_ret
 exact⟨rfl,rfl⟩
theorem len64_011 (z:Int)(q:Nat)(w:World)(h0:0<=z)(hz:z<=18446744073709551615)(h1:z < 4294967296)(h2:65536<=z)(h3:256<=z/65536)(hq:q<=8)
  (hi:∀W,(Instr.index 9 (.string Lib.len8tab) (.int .u8 (z/65536/256))).run Tryz.prog W= .ok (.int .u8 (q:Int)) W):
  Calls Tryz.prog 184 #[.int .u64 z] w fun e w'=>e= .returned (.int .i64 (24+q:Int))/\w=w':=by
 go_enter Tryz.func184,Tryz.ntmps184
 go_wp2
 go_ret
 exact⟨rfl,rfl⟩
theorem len64_010 (z:Int)(q:Nat)(w:World)(h0:0<=z)(hz:z<=18446744073709551615)(h1:z < 4294967296)(h2:65536<=z)(h3:z/65536 < 256)(hq:q<=8)
  (hi:∀W,(Instr.index 9 (.string Lib.len8tab) (.int .u8 (z/65536))).run Tryz.prog W= .ok (.int .u8 (q:Int)) W):
  Calls Tryz.prog 184 #[.int .u64 z] w fun e w'=>e= .returned (.int .i64 (16+q:Int))/\w=w':=by
 go_enter Tryz.func184,Tryz.ntmps184
 go_wp2
 go_ret
 exact⟨rfl,rfl⟩
theorem len64_001 (z:Int)(q:Nat)(w:World)(h0:0<=z)(hz:z<=18446744073709551615)(h1:z < 4294967296)(h2:z < 65536)(h3:256<=z)(hq:q<=8)
  (hi:∀W,(Instr.index 9 (.string Lib.len8tab) (.int .u8 (z/256))).run Tryz.prog W= .ok (.int .u8 (q:Int)) W):
  Calls Tryz.prog 184 #[.int .u64 z] w fun e w'=>e= .returned (.int .i64 (8+q:Int))/\w=w':=by
 go_enter Tryz.func184,Tryz.ntmps184
 go_wp2
 go_ret
 exact⟨rfl,rfl⟩
theorem len64_000 (z:Int)(q:Nat)(w:World)(h0:0<=z)(hz:z<=18446744073709551615)(h1:z < 4294967296)(h2:z < 65536)(h3:z < 256)(hq:q<=8)
  (hi:∀W,(Instr.index 9 (.string Lib.len8tab) (.int .u8 (z))).run Tryz.prog W= .ok (.int .u8 (q:Int)) W):
  Calls Tryz.prog 184 #[.int .u64 z] w fun e w'=>e= .returned (.int .i64 (0+q:Int))/\w=w':=by
 go_enter Tryz.func184,Tryz.ntmps184
 go_wp2
 go_ret
 exact⟨ret_int (by omega),rfl⟩
theorem len64_any (x:Nat)(hx:x < 18446744073709551616)(w:World):
  Calls Tryz.prog 184 #[.int .u64 (x:Int)] w fun e w'=>e= .returned (.int .i64 (blen x:Int))/\w=w':=by
 by_cases h0:4294967296<=x
 ·have s0:=blen_shift (x) 32 (by omega)
  rw[show 2^32=4294967296 by decide]at s0
  by_cases h1:65536<=x/4294967296
  ·have s1:=blen_shift (x/4294967296) 16 (by omega)
   rw[show 2^16=65536 by decide]at s1
   by_cases h2:256<=x/4294967296/65536
   ·have s2:=blen_shift (x/4294967296/65536) 8 (by omega)
    rw[show 2^8=256 by decide]at s2
    have:=len64_111 (x:Int) (blen (x/4294967296/65536/256)) w (by omega) (by omega) (by omega) (by omega) (by omega) (blen_mono_le (by omega)) (fun W=>index_len8 W (x/4294967296/65536/256) (by omega))
    exact this.mono fun e w' h=>⟨h.1.trans (ret_int (by omega)),h.2⟩
   ·have:=len64_110 (x:Int) (blen (x/4294967296/65536)) w (by omega) (by omega) (by omega) (by omega) (by omega) (blen_mono_le (by omega)) (fun W=>index_len8 W (x/4294967296/65536) (by omega))
    exact this.mono fun e w' h=>⟨h.1.trans (ret_int (by omega)),h.2⟩
  ·by_cases h2:256<=x/4294967296
   ·have s2:=blen_shift (x/4294967296) 8 (by omega)
    rw[show 2^8=256 by decide]at s2
    have:=len64_101 (x:Int) (blen (x/4294967296/256)) w (by omega) (by omega) (by omega) (by omega) (by omega) (blen_mono_le (by omega)) (fun W=>index_len8 W (x/4294967296/256) (by omega))
    exact this.mono fun e w' h=>⟨h.1.trans (ret_int (by omega)),h.2⟩
   ·have:=len64_100 (x:Int) (blen (x/4294967296)) w (by omega) (by omega) (by omega) (by omega) (by omega) (blen_mono_le (by omega)) (fun W=>index_len8 W (x/4294967296) (by omega))
    exact this.mono fun e w' h=>⟨h.1.trans (ret_int (by omega)),h.2⟩
 ·by_cases h1:65536<=x
  ·have s1:=blen_shift (x) 16 (by omega)
   rw[show 2^16=65536 by decide]at s1
   by_cases h2:256<=x/65536
   ·have s2:=blen_shift (x/65536) 8 (by omega)
    rw[show 2^8=256 by decide]at s2
    have:=len64_011 (x:Int) (blen (x/65536/256)) w (by omega) (by omega) (by omega) (by omega) (by omega) (blen_mono_le (by omega)) (fun W=>index_len8 W (x/65536/256) (by omega))
    exact this.mono fun e w' h=>⟨h.1.trans (ret_int (by omega)),h.2⟩
   ·have:=len64_010 (x:Int) (blen (x/65536)) w (by omega) (by omega) (by omega) (by omega) (by omega) (blen_mono_le (by omega)) (fun W=>index_len8 W (x/65536) (by omega))
    exact this.mono fun e w' h=>⟨h.1.trans (ret_int (by omega)),h.2⟩
  ·by_cases h2:256<=x
   ·have s2:=blen_shift (x) 8 (by omega)
    rw[show 2^8=256 by decide]at s2
    have:=len64_001 (x:Int) (blen (x/256)) w (by omega) (by omega) (by omega) (by omega) (by omega) (blen_mono_le (by omega)) (fun W=>index_len8 W (x/256) (by omega))
    exact this.mono fun e w' h=>⟨h.1.trans (ret_int (by omega)),h.2⟩
   ·have:=len64_000 (x:Int) (blen (x)) w (by omega) (by omega) (by omega) (by omega) (by omega) (blen_mono_le (by omega)) (fun W=>index_len8 W (x) (by omega))
    exact this.mono fun e w' h=>⟨h.1.trans (ret_int (by omega)),h.2⟩
theorem lead64_any{x:Nat}{z a:Int}(w:World)(hx:x < 18446744073709551616)(hz:(x:Int)=z)(ha:64-(blen x:Int)=a):
  Calls Tryz.prog 118 #[.int .u64 z] w (PI w a):=by
 have hb:=blen_mono_le (n:=x) (k:=64) hx;subst hz;subst ha
 go_enter Tryz.func118,Tryz.ntmps118
 go_wp2_with (go_at_call 184;refine(len64_any x hx _).mono ?_;rintro e w' ⟨rfl,rfl⟩)
 go_ret
 exact⟨rfl,Below.refl _ _⟩
theorem of_fq{n:Int}(h0:n≠0)(h1: -9223372036854775808<=n)(h2:n<=9223372036854775807):Fq 1 (decide (n < 0)) ((tp n.natAbs:Nat):Int) (-(64-(blen n.natAbs:Int))) (sgi (decide (n < 0)) (lo n.natAbs 0)):=by
 have hm:n.natAbs≠0:=by omega
 have a1:=tp_ge hm;have a2:=tp_lt n.natAbs;have a3:=blen_mono_le (n:=n.natAbs) (k:=64) (by omega);refine Fq.fin (by omega) (by omega) (by omega) (by omega) ?_
 congr 1
 unfold lo xp
 rw[if_neg hm,if_neg (by omega),if_neg (by omega)]
 omega
theorem of_shl{n:Int}(h0:n≠0)(h1: -9223372036854775808<=n)(h2:n<=9223372036854775807):(n.natAbs:Int)*2^(64-(blen n.natAbs:Int)).toNat=((tp n.natAbs:Nat):Int):=by
 have a3:=blen_mono_le (n:=n.natAbs) (k:=64) (by omega)
 rw[tp_small a3,show (64-(blen n.natAbs:Int)).toNat=64-blen n.natAbs by omega]
 push_cast
 rfl
theorem nOf{n r:Int}(w:World)(h1: -9223372036854775808<=n)(h2:n<=9223372036854775807)(hr:sgi (decide (n < 0)) (lo n.natAbs 0)=r):Calls Tryz.prog 47 #[.int .i64 n] w (PN w r):=by
 by_cases h0:n=0
 ·subst h0
  obtain rfl:0=r:=hr
  go_enter Tryz.func47,Tryz.ntmps47
  go_upto_region 1 with (fail)
  generalize hW1:w.alloc _=w1 at *;obtain⟨XR,HB⟩:=Bo.en1 hW1;clear hW1;have xXR:=XR.cell;have zXR0:=XR.frozen;go_wp2;clear xXR zXR0;have SX:=StN.t4 XR 0 false 0 0;exact bq (by simp[results,Tryz.results47,go_sem,SX.box.cell]) rfl ⟨_,_,_,_,rfl,Fq.nought,(SX.below HB.out (by omega))⟩
 ·have HQ:=of_fq h0 h1 h2;have hs:=of_shl h0 h1 h2
  have e0:(n==0)=false:=by simpa using h0
  have hx:n.natAbs < 18446744073709551616:=by omega
  have hb:=blen_mono_le (n:=n.natAbs) (k:=64) (by omega);have t1:=tp_lt n.natAbs;rw[hr]at HQ;clear hr
  by_cases hs0:n < 0
  ·obtain⟨a,ha⟩:∃a,64-(blen n.natAbs:Int)=a:=⟨_,rfl⟩
   have hn:((n.natAbs:Nat):Int)= -n:=by omega
   rw[ha]at HQ hs;rw[hn]at hs
   have hd:decide (n < 0)=true:=by simp;omega
   rw[hd]at HQ;have HA:=ie ha;have HN:=ie hn;obtain⟨T,hT⟩:∃T,((tp n.natAbs:Nat):Int)=T:=⟨_,rfl⟩;rw[hT]at HQ hs
   have hT2:0<=T/\T < 18446744073709551616:=by omega
   have HS:=ie hs
   have HW:=ie (show IntKind.u64.wrap T=T from IntWalk.u64_in _ (by omega))
   have a1:0<=a:=by omega
   have hb0:blen n.natAbs≠0:=fun e=>h0 (by have:=blen_eq_zero.1 e;omega)
   have a2:a < 64:=by omega
   clear hb0;clear hs ha hb t1 hT hn hT2
   go_enter Tryz.func47,Tryz.ntmps47
   go_upto_region 1 with (fail)
   generalize hW1:w.alloc _=w1 at *;obtain⟨XR,HB⟩:=Bo.en1 hW1;clear hW1
   have hx1:n.natAbs < 18446744073709551616:=hx
   have hc:IntKind.u64.wrap (-IntKind.u64.wrap n)= -n:=by
    show (-(n%18446744073709551616))%18446744073709551616= -n
    omega
   go_wp2_with fail
   refine(lead64_any _ hx HN.out HA.out).mono ?_;rintro ee w2 ⟨rfl,B⟩;replace XR:=XR.b B;replace HB:=Hqb HB B;clear B;have hs:=HS.out;have hw:=HW.out;have xXR:=XR.cell;have zXR0:=XR.frozen;go_wp2;clear xXR zXR0;have SX:=StN.t4 XR 1 true T (-a);exact bq (by simp[results,Tryz.results47,go_sem,SX.box.cell]) rfl ⟨_,_,_,_,rfl,HQ,(SX.below HB.out (by omega))⟩
  ·obtain⟨a,ha⟩:∃a,64-(blen n.natAbs:Int)=a:=⟨_,rfl⟩
   have hn:((n.natAbs:Nat):Int)=n:=by omega
   rw[ha]at HQ hs;rw[hn]at hs
   have hd:decide (n < 0)=false:=by simp;omega
   rw[hd]at HQ;have HA:=ie ha;have HN:=ie hn;obtain⟨T,hT⟩:∃T,((tp n.natAbs:Nat):Int)=T:=⟨_,rfl⟩;rw[hT]at HQ hs
   have hT2:0<=T/\T < 18446744073709551616:=by omega
   have HS:=ie hs
   have HW:=ie (show IntKind.u64.wrap T=T from IntWalk.u64_in _ (by omega))
   have a1:0<=a:=by omega
   have hb0:blen n.natAbs≠0:=fun e=>h0 (by have:=blen_eq_zero.1 e;omega)
   have a2:a < 64:=by omega
   clear hb0;clear hs ha hb t1 hT hn hT2
   go_enter Tryz.func47,Tryz.ntmps47
   go_upto_region 1 with (fail)
   generalize hW1:w.alloc _=w1 at *;obtain⟨XR,HB⟩:=Bo.en1 hW1;clear hW1
   have hx1:n.natAbs < 18446744073709551616:=hx
   go_wp2_with fail
   refine(lead64_any _ hx HN.out HA.out).mono ?_;rintro ee w2 ⟨rfl,B⟩;replace XR:=XR.b B;replace HB:=Hqb HB B;clear B;have hs:=HS.out;have hw:=HW.out;have xXR:=XR.cell;have zXR0:=XR.frozen;go_wp2;clear xXR zXR0;have SX:=StN.t4 XR 1 false T (-a);exact bq (by simp[results,Tryz.results47,go_sem,SX.box.cell]) rfl ⟨_,_,_,_,rfl,HQ,(SX.below HB.out (by omega))⟩
def Nl (w:World)(A:Option Addr)(n c:Nat)(l:List Int):Prop:=
 l.length=n/\n<=c/\n<=1099511627776/\(0 < n->∃b o,A=some ⟨b,o,none⟩/\∀k,k < n->∃D s M E,w.cell? ⟨b,o+k*4,none⟩=some (.int .i64 D)/\w.cell? ⟨b,o+k*4+1,none⟩=some (.bool s)/\w.cell? ⟨b,o+k*4+2,none⟩=some (.int .u64 M)/\w.cell? ⟨b,o+k*4+3,none⟩=some (.int .i64 E)/\M < 18446744073709551616/\rk D s M E=l.getD k 0)
theorem Nl.below{w w':World}{A:Option Addr}{n c:Nat}{l:List Int}(h:Nl w A n c l)(hb:Below w.heap.size w w'):Nl w' A n c l:=by
 obtain⟨h1,h2,h3,h4⟩:=h
 refine⟨h1,h2,h3,fun hn=>?_⟩
 obtain⟨b,o,e,hc⟩:=h4 hn
 refine⟨b,o,e,fun k hk=>?_⟩
 obtain⟨D,s,M,E,c0,c1,c2,c3,hM,hr⟩:=hc k hk;exact⟨D,s,M,E,(hb.cell (p:=⟨b,_,none⟩) (block_lt_of_cell c0)).trans c0,(hb.cell (p:=⟨b,_,none⟩) (block_lt_of_cell c1)).trans c1,(hb.cell (p:=⟨b,_,none⟩) (block_lt_of_cell c2)).trans c2,(hb.cell (p:=⟨b,_,none⟩) (block_lt_of_cell c3)).trans c3,hM,hr⟩
abbrev Nl.b:= @Nl.below
def Jo.Fact.nl (n:Nat)(l:List Int):Jo.Fact:=⟨fun v w=>∃A c,v= .slice A n c/\Nl w A n c l,fun v w w' h b=>by
 obtain⟨A,c,e,h⟩:=h;exact⟨A,c,e,h.below b⟩⟩
def Jo.Fact.num (r:Int):Jo.Fact:=⟨fun v w=>∃K s M E,v= .agg #[.int .i64 K,.bool s,.int .u64 M,.int .i64 E]/\Fq K s M E r,fun v w w' h b=>h⟩
def mnp (l:List Int):Int:=l.foldl min TP
def mxp (l:List Int):Int:=l.foldl max (-TP)
theorem mnp_take{l:List Int}{k:Nat}(h:k < l.length):mnp (l.take (k+1))=min (mnp (l.take k)) (l.getD k 0):=by
 unfold mnp
 rw[List.take_succ_eq_append_getElem h,List.foldl_append]
 simp[List.getD_eq_getElem?_getD,h]
theorem mxp_take{l:List Int}{k:Nat}(h:k < l.length):mxp (l.take (k+1))=max (mxp (l.take k)) (l.getD k 0):=by
 unfold mxp
 rw[List.take_succ_eq_append_getElem h,List.foldl_append]
 simp[List.getD_eq_getElem?_getD,h]
def NInv (w:World)(g3:Nat)(r:Int)(wr:World):Prop:=
 ∃K s M E,Bo wr w.heap.size #[.int .i64 0,.bool false,.int .u64 0,.int .i64 0] 24/\Bo wr g3 #[.int .i64 K,.bool s,.int .u64 M,.int .i64 E] 24/\Fq K s M E r/\Below w.heap.size w wr
theorem nLeast{w:World}{A:Option Addr}{n c:Nat}{l:List Int}{r:Int}(h:Nl w A n c l)(hr:mnp l=r):Calls Tryz.prog 115 #[.slice A n c] w (PN w r):=by
 have HR:=ie hr;have HLn:=ie h.1;have hcap:=h.2.1;have hbig:=h.2.2.1;have hD0:=h;clear hr
 go_enter Tryz.func115,Tryz.ntmps115
 go_upto_region 1 with (fail)
 generalize hW1:w.alloc _=w1 at *;obtain⟨XR,HB⟩:=Bo.en1 hW1;replace h:=h.below HB.out;clear hW1
 go_wp2_with fail
 refine(nInf (s:=false) rfl).mono ?_;rintro ee w2 ⟨K1,s1,M1,E1,rfl,q1,B⟩;replace XR:=XR.b B;replace h:=h.b B;replace HB:=Hqb HB B;clear B
 go_upto_region 2 with (fail)
 have hg3:=XR.lt;have lX3:=Nat.le_refl (World.heap w2).size;have nX3XR:=XR.lt;generalize hWn:w2.alloc _=w3 at *;obtain⟨X3,BW⟩:=Bo.nw hWn;clear hWn;replace XR:=XR.b BW;replace h:=h.b BW;replace HB:=Hqb HB BW;clear BW
 go_wp2_with fail
 generalize w2.heap.size=g3 at *;clear h w1
 go_loopw [9] (fun i wr=>∃k:Nat,k<=n/\i= .int .i64 k/\NInv w g3 (mnp (l.take k)) wr) (fun i _=>n-(intOf i).toNat)
 case atStart=>exact ⟨0,Nat.zero_le _,rfl,_,_,_,_,XR,X3,q1,HB.out⟩
 case round=>
  obtain⟨k,hk,rfl,hI⟩:=hrel;obtain⟨K1,s1,M1,E1,XR,X3,q1,hB⟩:=hI;have HB:=ie hB;have h:=hD0.below hB;clear hB
  by_cases hlt:k < n
  ·obtain⟨b,o,rfl,hcell⟩:=h.2.2.2 (by omega);obtain⟨D,s,M,E,c0,c1,c2,c3,hM,hx⟩:=hcell k hlt;clear hcell h hD0;have ht:=mnp_take (l:=l) (k:=k) (by rw[HLn.out];exact hlt);rw[<-hx]at ht;generalize mnp (l.take k)=R at *;obtain⟨x,hX⟩:∃x,rk D s M E=x:=⟨_,rfl⟩;rw[hX]at ht;have HX:=ie hX;have HT:=ie ht;obtain⟨z,hz⟩:∃z,cmpI x R=z:=⟨_,rfl⟩
   have HZ:=ie (show cmpI (rk D s M E) (rk K1 s1 M1 E1)=z by rw[hX,q1.rk];exact hz)
   clear ht hX hx
   have i1:(k:Int) < n:=by omega
   have i2:(0:Int)<=k:=by omega
   go_upto_region 5 with (fail)
   have hgd:=X3.lt;have nX5XR:=XR.lt;have nX5X3:=X3.lt;generalize hWn:wr.alloc _=w3 at *;obtain⟨X5,BW⟩:=Bo.nw hWn;clear hWn;replace XR:=XR.b BW;replace X3:=X3.b BW;replace HB:=Hqb HB BW;clear BW;clear c0 c1 c2 c3;have xX3:=X3.cell;have xX5:=X5.cell
   go_wp2_with fail
   refine(nCmp hM q1.top HZ.out).mono ?_;rintro ee w4 ⟨rfl,B⟩;clear xX3 xX5;replace XR:=XR.b B;replace X3:=X3.b B;replace X5:=X5.b B;replace HB:=Hqb HB B;clear B
   by_cases hb:x < R
   ·obtain rfl: -1=z:=by rw[<-hz,cmpI_lt hb]
    have hT2:=HT.out
    rw[show min R x=x by omega]at hT2
    have xX5:=X5.cell
    go_wp2_with fail
    refine(nTaken hM HX.out).mono ?_;rintro ee w5 ⟨K2,s2,M2,E2,rfl,q2,B⟩;clear xX5;replace XR:=XR.b B;replace X3:=X3.b B;replace HB:=Hqb HB B;clear B;have xX3:=X3.cell;have zX30:=X3.frozen
    go_upto_region 7 with (fail)
    clear xX3 zX30;generalize hS:(((w5.setCell _ _).setCell _ _).setCell _ _).setCell _ _=w6 at *;have SX:=StN.of4 X3 hS;replace XR:=XR.s SX;replace HB:=Hqs HB SX (by omega);replace X3:=SX.box;clear SX hS;go_wp2
    go_roundw
    case rel=>
     refine⟨k+1,by omega,by go_num,K2,s2,M2,E2,XR,X3,?_,HB.out⟩
     rw[hT2];exact q2
    case measure=>simp [intOf];omega
   ·have hT2:=HT.out
    rw[show min R x=R by omega]at hT2
    have hz0:¬z < 0:=by
     rw[<-hz]
     rcases cmpI_tri x R with⟨a1,a2⟩ | ⟨a1,a2⟩ | ⟨a1,a2⟩ <;> rw[a2] <;> omega
    have e0:decide (z < 0)=false:=df hz0
    go_wp2
    go_roundw
    case rel=>
     refine⟨k+1,by omega,by go_num,K1,s1,M1,E1,XR,X3,?_,HB.out⟩
     rw[hT2];exact q1
    case measure=>simp [intOf];omega
  ·obtain rfl:k=n:=by omega
   rw[List.take_of_length_le (by rw[HLn.out];omega),HR.out]at q1;have xXR:=XR.cell;have zXR0:=XR.frozen;have xX3:=X3.cell;go_wp2;clear xXR zXR0 xX3;have SX:=StN.t4 XR K1 s1 M1 E1;exact bq (by simp[results,Tryz.results115,go_sem,SX.box.cell]) rfl ⟨_,_,_,_,rfl,q1,(SX.below HB.out (by omega))⟩
theorem nMost{w:World}{A:Option Addr}{n c:Nat}{l:List Int}{r:Int}(h:Nl w A n c l)(hr:mxp l=r):Calls Tryz.prog 114 #[.slice A n c] w (PN w r):=by
 have HR:=ie hr;have HLn:=ie h.1;have hcap:=h.2.1;have hbig:=h.2.2.1;have hD0:=h;clear hr
 go_enter Tryz.func114,Tryz.ntmps114
 go_upto_region 1 with (fail)
 generalize hW1:w.alloc _=w1 at *;obtain⟨XR,HB⟩:=Bo.en1 hW1;replace h:=h.below HB.out;clear hW1
 go_wp2_with fail
 refine(nInf (s:=true) rfl).mono ?_;rintro ee w2 ⟨K1,s1,M1,E1,rfl,q1,B⟩;replace XR:=XR.b B;replace h:=h.b B;replace HB:=Hqb HB B;clear B
 go_upto_region 2 with (fail)
 have hg3:=XR.lt;have lX3:=Nat.le_refl (World.heap w2).size;have nX3XR:=XR.lt;generalize hWn:w2.alloc _=w3 at *;obtain⟨X3,BW⟩:=Bo.nw hWn;clear hWn;replace XR:=XR.b BW;replace h:=h.b BW;replace HB:=Hqb HB BW;clear BW
 go_wp2_with fail
 generalize w2.heap.size=g3 at *;clear h w1
 go_loopw [9] (fun i wr=>∃k:Nat,k<=n/\i= .int .i64 k/\NInv w g3 (mxp (l.take k)) wr) (fun i _=>n-(intOf i).toNat)
 case atStart=>exact ⟨0,Nat.zero_le _,rfl,_,_,_,_,XR,X3,q1,HB.out⟩
 case round=>
  obtain⟨k,hk,rfl,hI⟩:=hrel;obtain⟨K1,s1,M1,E1,XR,X3,q1,hB⟩:=hI;have HB:=ie hB;have h:=hD0.below hB;clear hB
  by_cases hlt:k < n
  ·obtain⟨b,o,rfl,hcell⟩:=h.2.2.2 (by omega);obtain⟨D,s,M,E,c0,c1,c2,c3,hM,hx⟩:=hcell k hlt;clear hcell h hD0;have ht:=mxp_take (l:=l) (k:=k) (by rw[HLn.out];exact hlt);rw[<-hx]at ht;generalize mxp (l.take k)=R at *;obtain⟨x,hX⟩:∃x,rk D s M E=x:=⟨_,rfl⟩;rw[hX]at ht;have HX:=ie hX;have HT:=ie ht;obtain⟨z,hz⟩:∃z,cmpI x R=z:=⟨_,rfl⟩
   have HZ:=ie (show cmpI (rk D s M E) (rk K1 s1 M1 E1)=z by rw[hX,q1.rk];exact hz)
   clear ht hX hx
   have i1:(k:Int) < n:=by omega
   have i2:(0:Int)<=k:=by omega
   go_upto_region 5 with (fail)
   have hgd:=X3.lt;have nX5XR:=XR.lt;have nX5X3:=X3.lt;generalize hWn:wr.alloc _=w3 at *;obtain⟨X5,BW⟩:=Bo.nw hWn;clear hWn;replace XR:=XR.b BW;replace X3:=X3.b BW;replace HB:=Hqb HB BW;clear BW;clear c0 c1 c2 c3;have xX3:=X3.cell;have xX5:=X5.cell
   go_wp2_with fail
   refine(nCmp hM q1.top HZ.out).mono ?_;rintro ee w4 ⟨rfl,B⟩;clear xX3 xX5;replace XR:=XR.b B;replace X3:=X3.b B;replace X5:=X5.b B;replace HB:=Hqb HB B;clear B
   by_cases hb:R < x
   ·obtain rfl:1=z:=by rw[<-hz,cmpI_gt hb]
    have hT2:=HT.out
    rw[show max R x=x by omega]at hT2
    have xX5:=X5.cell
    go_wp2_with fail
    refine(nTaken hM HX.out).mono ?_;rintro ee w5 ⟨K2,s2,M2,E2,rfl,q2,B⟩;clear xX5;replace XR:=XR.b B;replace X3:=X3.b B;replace HB:=Hqb HB B;clear B;have xX3:=X3.cell;have zX30:=X3.frozen
    go_upto_region 7 with (fail)
    clear xX3 zX30;generalize hS:(((w5.setCell _ _).setCell _ _).setCell _ _).setCell _ _=w6 at *;have SX:=StN.of4 X3 hS;replace XR:=XR.s SX;replace HB:=Hqs HB SX (by omega);replace X3:=SX.box;clear SX hS;go_wp2
    go_roundw
    case rel=>
     refine⟨k+1,by omega,by go_num,K2,s2,M2,E2,XR,X3,?_,HB.out⟩
     rw[hT2];exact q2
    case measure=>simp [intOf];omega
   ·have hT2:=HT.out
    rw[show max R x=R by omega]at hT2
    have hz0:¬0 < z:=by
     rw[<-hz]
     rcases cmpI_tri x R with⟨a1,a2⟩ | ⟨a1,a2⟩ | ⟨a1,a2⟩ <;> rw[a2] <;> omega
    have e0:decide (0 < z)=false:=df hz0
    go_wp2
    go_roundw
    case rel=>
     refine⟨k+1,by omega,by go_num,K1,s1,M1,E1,XR,X3,?_,HB.out⟩
     rw[hT2];exact q1
    case measure=>simp [intOf];omega
  ·obtain rfl:k=n:=by omega
   rw[List.take_of_length_le (by rw[HLn.out];omega),HR.out]at q1;have xXR:=XR.cell;have zXR0:=XR.frozen;have xX3:=X3.cell;go_wp2;clear xXR zXR0 xX3;have SX:=StN.t4 XR K1 s1 M1 E1;exact bq (by simp[results,Tryz.results114,go_sem,SX.box.cell]) rfl ⟨_,_,_,_,rfl,q1,(SX.below HB.out (by omega))⟩
end Go.Proofs.YtomikokonmikgaaGreatDoor
namespace Go.Proofs.YtomikokonmikgaaGreatDoor
open Go.RowKit
set_option linter.unusedVariables false
open Go in
theorem Jo.n1{P:Program}{f:FuncId}{a:Array Value}{w:World}{Q:Ending->World->Prop}{R:Value->World->Prop}{z:Int}(h:Calls P f a w (PN w z))(hR:∀v w',(Jo.Fact.num z).P v w'->Jo.Grow w w'->R v w')(hQ:∀v w',R v w'->Q (.returned v) w':=by exact fun _ _ h=>h):Calls P f a w Q:=by
 refine h.mono ?_
 rintro e w' ⟨K,s,M,E,rfl,p,B⟩
 exact hQ _ _ (hR _ _ ⟨K,s,M,E,rfl,p⟩ B)
end Go.Proofs.YtomikokonmikgaaGreatDoor
namespace Go.Proofs.YtomikokonmikgaaGreatDoor.Jo
open Go Go.RowKit
set_option linter.unusedVariables false
structure Off (g:Nat) (new:Array Value) (R:TypeId) (w w':World):Prop where
 os:w'.os=w.os
 tape:w'.tape=w.tape
 output:w'.output=w.output
 size:w.heap.size<=w'.heap.size
 block:∀k,k < w.heap.size->k≠g->w'.heap[k]?=w.heap[k]?
 own:w'.heap[g]?=w.heap[g]?\/w'.heap[g]?=some (.cells new R (0,0))
section
variable {g:Nat} {new:Array Value} {R:TypeId} {w w' w'':World}
theorem Off.refl (g:Nat)(new:Array Value)(R:TypeId)(w:World):Off g new R w w:=⟨rfl,rfl,rfl,Nat.le_refl _,fun _ _ _=>rfl,.inl rfl⟩
theorem Off.drew (w:World):Off g new R w w.drew:=⟨rfl,rfl,rfl,Nat.le_refl _,fun _ _ _=>rfl,.inl rfl⟩
theorem Off.trans (h:Off g new R w w')(k:Off g new R w' w''):Off g new R w w'':=
 ⟨k.os.trans h.os,k.tape.trans h.tape,k.output.trans h.output,Nat.le_trans h.size k.size,fun i hi hn=>(k.block i (Nat.lt_of_lt_of_le hi h.size) hn).trans (h.block i hi hn),by
  rcases k.own with e | e
  ·rcases h.own with f | f
   ·exact .inl (e.trans f)
   ·exact .inr (e.trans f)
  ·exact .inr e⟩
theorem Off.of_below (h:Below w.heap.size w w')(hg:g < w.heap.size):Off g new R w w':=⟨h.os,h.tape,h.output,h.size,fun k hk _=>h.block k hk,.inl (h.block g hg)⟩
theorem Off.of_stn{old:Array Value}(S:StN w w' g old new R):Off g new R w w':=by
 have hb:=S.2.2.2 0 w (Nat.zero_le _) (Below.refl 0 w)
 exact⟨hb.os,hb.tape,hb.output,hb.size,fun k _ hn=>S.2.2.1 k hn,.inr S.2.1⟩
theorem Off.below{B:Nat}{a:World}(O:Off g new R w w')(h:Below B a w)(hB:B<=g)(hg:g < w.heap.size):Below B a w':=
 ⟨O.os.trans h.os,O.tape.trans h.tape,O.output.trans h.output,Nat.le_trans h.size O.size,fun k hk=>(O.block k (by omega) (by omega)).trans (h.block k hk)⟩
abbrev Off.b:= @Off.below
theorem _root_.Go.Proofs.YtomikokonmikgaaGreatDoor.Bo.off{k:Nat}{cs:Array Value}{T:TypeId}(X:Bo w k cs T)(hk:k≠g)(O:Off g new R w w'):Bo w' k cs T:=X.keep (O.block k X.lt hk)
theorem _root_.Go.Proofs.YtomikokonmikgaaGreatDoor.Nm.off{old:Array Value}{B:Option Addr}{m d a:Nat}(h:Nm w B m d a)(X:Bo w g old R)(hn:old.all no32=true)(O:Off g new R w w'):Nm w' B m d a:=by
 obtain⟨b,h⟩:=h
 exact⟨b,h.keep fun hm=>O.block b (h.lt hm) (fun e=>by
  obtain⟨o,_,hc⟩:=h.at hm
  have:=hc 0 hm
  rw[e]at this
  exact X.no hn this)⟩
theorem _root_.Go.Proofs.YtomikokonmikgaaGreatDoor.Rd.off{old:Array Value}{B:Option Addr}{m d a:Nat}(h:Rd w B m d a)(X:Bo w g old R)(hn:old.all no32=true)(O:Off g new R w w'):Rd w' B m d a:=by
 obtain⟨b,xs,h,e⟩:=h
 exact⟨b,xs,h.keep fun hm=>O.block b (h.lt hm) (fun e=>by
  obtain⟨o,_,hc⟩:=h.at hm
  have:=hc 0 hm
  rw[e]at this
  exact X.no hn this),e⟩
end
structure LFact (g:Nat) (new:Array Value) (R:TypeId) where
 P:Value->World->Prop
 keep:∀v w w',P v w->Off g new R w w'->P v w'
section
variable {g:Nat} {new:Array Value} {R:TypeId}
def LFact.any:LFact g new R:=⟨fun _ _=>True,fun _ _ _ h _=>h⟩
def LFact.eq (u:Value):LFact g new R:=⟨fun v _=>v=u,fun _ _ _ h _=>h⟩
def LFact.done:LFact g new R:=⟨fun _ w=>Bo w g new R,fun v w w' h o=>by
 rcases o.own with e | e
 ·exact h.keep e
 ·exact e⟩
def lphi (F:List (LFact g new R))(i:Nat)(v:Value)(w:World):Prop:=(F.getD i LFact.any).P v w
variable {P:Program} {ops:Array Oper} {Q:Exit->Act->World->Prop} {a0:Act} {T:List Nat} {ds:List (Option Tmp)} {ls:List (List Nat)} {k:Nat} {F:List (LFact g new R)} {J:World->Prop}
theorem lcons{i:Nat}{o:Oper}{r:List Nat}{di:Option Tmp}{L:List (Option Tmp × Nat)}{f:LFact g new R}(ho:ops[i]?=some o)(hdi:ds.getD i none=di)(hL:((ls.getD i []).map fun j=>(ds.getD j none,j))=L)(hf:F.getD i LFact.any=f)
  (h:∀vs w,J w->(∀j ∈ ls.getD i [],lphi F j (vs j) w)->∀K:Act->World->Prop,Shut (∀v w',f.P v w'->Off g new R w w'->K ((putl vs L a0).put di v) w')->
   if Region.wanted o (yielded ops (putl vs L a0).tmps)=true then Oper.wp P o (putl vs L a0) w K Q else K ((putl vs L a0).put o.dst undef) w)
  (hs:Steps P ops Q a0 (dstOf ds) (depOf ls) (lphi F) J (Off g new R) r):Steps P ops Q a0 (dstOf ds) (depOf ls) (lphi F) J (Off g new R) (i::r):=by
 refine Steps.cons ho (fun vs w hJ hd K hK=>?_) hs
 have e:base (dstOf ds) vs (depOf ls i) a0=putl vs L a0:=by
  rw[base_putl,<-hL]
  rfl
 rw[e]at hK|-
 refine h vs w hJ hd K ?_
 intro v w' h1 h2
 have:=hK.out v w' (by unfold lphi;rw[hf];exact h1) h2
 rwa [show dstOf ds i=di from hdi]at this
theorem region_late{id fuel:Nat}{w:World}{L:List (Option Tmp × Nat)}(hm:P.follows .mixedOrders=true)(hok:ok .any ops T (dstOf ds) (depOf ls) k a0.tmps.size=true)(hnd:T.Nodup)
  (hL:(T.map fun j=>(ds.getD j none,j))=L) (hfu:ops.size-T.length=fuel)
  (step:Steps P ops (NoPanic Q) a0 (dstOf ds) (depOf ls) (lphi F) (fun wj=>Off g new R w wj) (Off g new R) T)
  (fin:∀vs wj,Off g new R w wj->(∀j ∈ T,lphi F j (vs j) wj)->wpAny P .any ops (NoPanic Q) fuel (mark T ops.size) (putl vs L a0) wj):
  (Code.region id ops true).wp P Q a0 w:=by
 refine wp_region_noPanic ?_
 refine wp_region_joint (T:=T) (dst:=dstOf ds) (D:=depOf ls) (k:=k) (Φ:=lphi F) (J:=fun wj=>Off g new R w wj) (St:=Off g new R) hm hok hnd (fun _ _ _ _ h=>h) (fun i _ v w w' h b=>(F.getD i LFact.any).keep v w w' h b) (fun _ _ h b=>h.trans b) (Off.drew w) step ?_
 intro vs w hJ hd
 have e:base (dstOf ds) vs T a0=putl vs L a0:=by
  rw[base_putl,<-hL]
  rfl
 rw[e,hfu]
 exact fin vs w hJ hd
end
end Go.Proofs.YtomikokonmikgaaGreatDoor.Jo
namespace Go.Proofs.YtomikokonmikgaaGreatDoor
open Go.RowKit
set_option linter.unusedVariables false
open Go in
theorem Jo.ld{g:Nat}{new:Array Value}{R:TypeId}{P:Program}{ops:Array Oper}{Q:Exit->Act->World->Prop}{a0:Act}{ds:List (Option Tmp)}{ls:List (List Nat)}{F:List (Jo.LFact g new R)}{J:World->Prop}(i:Nat)(di:Option Tmp)(L:List (Option Tmp × Nat))(f:Jo.LFact g new R){o:Oper}{r:List Nat}(ho:ops[i]?=some o)(hdi:ds.getD i none=di)(hL:((ls.getD i []).map fun j=>(ds.getD j none,j))=L)(hf:F.getD i Jo.LFact.any=f)
  (h:∀vs w,J w->(∀j ∈ ls.getD i [],Jo.lphi F j (vs j) w)->∀K:Act->World->Prop,Shut (∀v w',f.P v w'->Jo.Off g new R w w'->K ((Jo.putl vs L a0).put di v) w')->
   if Region.wanted o (yielded ops (Jo.putl vs L a0).tmps)=true then Oper.wp P o (Jo.putl vs L a0) w K Q else K ((Jo.putl vs L a0).put o.dst undef) w)
  (hs:Jo.Steps P ops Q a0 (Jo.dstOf ds) (Jo.depOf ls) (Jo.lphi F) J (Jo.Off g new R) r):Jo.Steps P ops Q a0 (Jo.dstOf ds) (Jo.depOf ls) (Jo.lphi F) J (Jo.Off g new R) (i::r):=Jo.lcons ho hdi hL hf h hs
open Go in
theorem Jo.lm{P:Program}{ops:Array Oper}{Q:Exit->Act->World->Prop}{a0:Act}{ds:List (Option Tmp)}{ls:List (List Nat)}{g:Nat}{new:Array Value}{R:TypeId}{F:List (Jo.LFact g new R)}{J:World->Prop}{i:Nat}{o:Oper}{r:List Nat}(ho:ops[i]?=some o)
  (h:∀w,J w->Jo.ad (Jo.lphi F) ds w (ls.getD i []) fun l=>∀K:Act->World->Prop,Shut (∀v w',Jo.lphi F i v w'->Jo.Off g new R w w'->K ((Jo.pv l a0).put (ds.getD i none) v) w')->
   if Region.wanted o (yielded ops (Jo.pv l a0).tmps)=true then Oper.wp P o (Jo.pv l a0) w K Q else K ((Jo.pv l a0).put o.dst undef) w)
  (hs:Jo.Steps P ops Q a0 (Jo.dstOf ds) (Jo.depOf ls) (Jo.lphi F) J (Jo.Off g new R) r):Jo.Steps P ops Q a0 (Jo.dstOf ds) (Jo.depOf ls) (Jo.lphi F) J (Jo.Off g new R) (i::r):=
 Jo.lcons ho rfl rfl rfl (fun vs w hJ hd=>by
  have:=Jo.ad_out vs _ _ (h w hJ) hd
  simp only[Jo.pv_map]at this
  exact this) hs
open Go in
theorem Jo.rl{P:Program}{ops:Array Oper}{Q:Exit->Act->World->Prop}{a0:Act}{id:Nat}{w:World}(g:Nat)(new:Array Value)(R:TypeId)(T:List Nat)(ds:List (Option Tmp))(ls:List (List Nat))(k:Nat)(fuel:Nat)(F:List (Jo.LFact g new R))
  (hm:P.follows .mixedOrders=true) (hok:Jo.ok .any ops T (Jo.dstOf ds) (Jo.depOf ls) k a0.tmps.size=true) (hnd:T.Nodup) (hfu:ops.size-T.length=fuel)
  (step:Jo.Steps P ops (NoPanic Q) a0 (Jo.dstOf ds) (Jo.depOf ls) (Jo.lphi F) (fun wj=>Jo.Off g new R w wj) (Jo.Off g new R) T)
  (fin:∀wj,Jo.Off g new R w wj->Jo.ad (Jo.lphi F) ds wj T fun l=>True->wpAny P .any ops (NoPanic Q) fuel (Jo.mark T ops.size) (Jo.pv l a0) wj):
  (Code.region id ops true).wp P Q a0 w:=
 Jo.region_late hm hok hnd rfl hfu step fun vs wj hJ hd=>by
  have:=Jo.ad_out vs _ _ (fin wj hJ) hd
  rw[Jo.pv_map]at this
  exact this trivial
abbrev Jo.k9{g:Nat}{new:Array Value}{R:TypeId}(e:Bool)(D:Int)(s:Bool)(M E:Int)(D':Int)(s':Bool)(M' E':Int):Jo.LFact g new R:=Jo.LFact.eq (.agg #[.bool e,.int .i64 D,.bool s,.int .u64 M,.int .i64 E,.int .i64 D',.bool s',.int .u64 M',.int .i64 E'])
abbrev Jo.kp{g:Nat}{new:Array Value}{R:TypeId}(h i:Nat):Jo.LFact g new R:=Jo.LFact.eq (.pointer (some ⟨h,i,none⟩))
end Go.Proofs.YtomikokonmikgaaGreatDoor
namespace Go.Proofs.YtomikokonmikgaaGreatDoor
set_option maxHeartbeats 4000000
open Go.RowKit
set_option linter.unusedVariables false
set_option maxRecDepth 100000
theorem dTimes{w:World}{A:Option Addr}{n c:Nat}{s:Bool}{N E low r:Int}(h:Wn w s A n c N)(hn:n<=100000)(h0:low<=E)(h1:E-low<=8388608)(hr:N*((2^(E-low).toNat:Nat):Int)=r):
  Calls Tryz.prog 248 #[.agg #[.bool s,.slice A n c,.int .i64 E],.int .i64 low] w (W1 w (n+(E-low).toNat/32+1) r):=by
 have HR:=ie hr;clear hr;obtain⟨d,hd⟩:∃d,E-low=d:=⟨_,rfl⟩
 have HW:Hid (IntKind.i64.wrap (E-low)=d):=ie (by rw[hd];exact IntWalk.i64_in _ (by omega))
 rw[hd]at h1
 have hd0:0<=d:=by omega
 rw[hd]at HR|-;clear hd h0
 go_enter Tryz.func248,Tryz.ntmps248
 go_wp2_with fail
 have X1:=(Bo.new w #[.bool s,.slice A n c,.int .i64 E] 124).below (bel1 _ (.cells #[.bool false,.slice none 0 0] 27));have XR:=Bo.newAt (w.alloc (.cells #[.bool s,.slice A n c,.int .i64 E] 124)) (g:=w.heap.size+1) (by simp) #[.bool false,.slice none 0 0] 27;replace h:=h.below (bel2 w (.cells #[.bool s,.slice A n c,.int .i64 E] 124) (.cells #[.bool false,.slice none 0 0] 27))
 have HB:=ie (bel2 w (.cells #[.bool s,.slice A n c,.int .i64 E] 124) (.cells #[.bool false,.slice none 0 0] 27));generalize hW1:(w.alloc (.cells #[.bool s,.slice A n c,.int .i64 E] 124)).alloc (.cells #[.bool false,.slice none 0 0] 27)=w1 at *;clear hW1;go_wp2;refine jk [0,1,2,3,4,5,6,7,8,9,10,11] [some 5,some 6,some 7,some 8,some 9,some 10,some 11,some 12,some 13,some 14,some 15,some 16,none] [[],[0],[1],[],[3],[4],[],[6],[],[7,8],[5,9],[2,10],[]] 13 1 [Jo.qp w.heap.size 0,Jo.qp w.heap.size 0,Jo.qb s,Jo.qp w.heap.size 0,Jo.qp w.heap.size 1,Jo.Fact.eq (.slice A n c),Jo.qp w.heap.size 2,Jo.qi E,Jo.qi low,Jo.qi d,Jo.Fact.nm (N.natAbs*2^d.toNat) (n+d.toNat/32+1),Jo.Fact.wn r (n+d.toNat/32+1),Jo.Fact.any] ?_ ?_
 ·iterate 2 (refine jm ?_ ?_;rotate_left)
  refine jm ?_ ?_
  ·rintro wj hJ _ rfl K hK;simp only[Jo.z]at hK|-;have xX10:=(X1.b hJ).a 0 (.bool s) rfl;go_simp;exact hK.out _ _ rfl (br _ _)
  iterate 2 (refine jm ?_ ?_;rotate_left)
  refine jm ?_ ?_
  ·rintro wj hJ _ rfl K hK;simp only[Jo.z]at hK|-;have xX11:=(X1.b hJ).a 1 (.slice A n c) rfl;go_simp;exact hK.out _ _ rfl (br _ _)
  refine jm ?_ ?_;rotate_left
  refine jm ?_ ?_
  ·rintro wj hJ _ rfl K hK;simp only[Jo.z]at hK|-;have xX12:=(X1.b hJ).a 2 (.int .i64 E) rfl;go_simp;exact hK.out _ _ rfl (br _ _)
  refine jm ?_ ?_;rotate_left
  refine jm ?_ ?_
  ·rintro wj hJ _ rfl _ rfl K hK;simp only[Jo.z]at hK|-;have hw:=HW.out;go_simp;exact hK.out _ _ rfl (br _ _)
  refine jm ?_ ?_
  ·rintro wj hJ _ rfl _ rfl K hK;simp only[Jo.z]at hK|-;go_simp;refine(vShlZ (h.b hJ).1.rd (by omega) hd0 (by omega) rfl).mono ?_;rintro ee wk ⟨A3,n3,c3,rfl,p3,k3,B⟩;exact hK.out _ _ ⟨A3,n3,c3,rfl,p3,k3⟩ B
  refine jm ?_ ?_
  ·rintro wj hJ _ rfl _ ⟨A3,n3,c3,rfl,p3,k3⟩ K hK;simp only[Jo.z]at hK|-;go_simp;exact hK.out _ _ ⟨s,A3,n3,c3,rfl,HR.out▸sg_times h (Nat.pow_pos (by decide)) p3,k3⟩ (br _ _)
  exact jo
  all_goals (rintro wj hJ;(repeat rintro _ rfl);intro K hK;simp only[Jo.z]at hK|-;go_simp;exact hK.out _ _ rfl (br _ _))
 rintro w2 hJ _ _ _ _ _ rfl _ _ _ _ _ rfl _ _ _ rfl _ rfl _ rfl _ ⟨A3,n3,c3,rfl,p3,k3⟩ _ ⟨s4,A4,n4,c4,rfl,p4,k4⟩ -;simp only[Jo.z];replace XR:=XR.b hJ;replace HB:=Hqb HB hJ;have xXR:=XR.cell;have zXR0:=XR.frozen
 refine jn 12 fun K hK=>?_
 go_simp;refine hK.out _ _ ?_;clear hK K xXR zXR0;have SX:=StN.t2 XR s4 A4 n4 c4;replace p4:=p4.s SX;refine jd ?_;go_wp2;exact bq (v:= .agg #[.bool s4,.slice A4 n4 c4]) (by simp[results,Tryz.results248,go_sem,SX.box.cell]) rfl ⟨s4,A4,n4,c4,rfl,p4,k4,(SX.below HB.out (by omega))⟩
theorem dMoveW{w:World}{A:Option Addr}{n c:Nat}{s:Bool}{z e k N E:Int}(hT:Tab w)(h:Wr w s A n c z)(hn:n<=100000)(hN:(mk (mk z e).1 (IntKind.i64.wrap ((mk z e).2+k))).1=N)(hE:(mk (mk z e).1 (IntKind.i64.wrap ((mk z e).2+k))).2=E):
  Calls Tryz.prog 212 #[.agg #[.bool s,.slice A n c,.int .i64 e],.int .i64 k] w (D1 w n N E):=by
 obtain⟨N1,hN1⟩:∃x,(mk z e).1=x:=⟨_,rfl⟩;obtain⟨E1,hE1⟩:∃x,(mk z e).2=x:=⟨_,rfl⟩;rw[hN1,hE1]at hN hE;obtain⟨d,hd⟩:∃x,IntKind.i64.wrap (E1+k)=x:=⟨_,rfl⟩;rw[hd]at hN hE;have HD:=ie hd;have HN1:=ie hN1;have HE1:=ie hE1;have HN:=ie hN;have HE:=ie hE;clear hN hE hN1 hE1 hd
 go_enter Tryz.func212,Tryz.ntmps212
 go_upto_region 1 with (fail)
 generalize hW1:(w.alloc _).alloc _=w1 at *;obtain⟨X1,XR,HB⟩:=Bo.en2 hW1;replace hT:=hT.below HB.out;replace h:=h.below HB.out;clear hW1;have xX1:=X1.cell
 go_wp2_with fail
 refine(dTaken hT h hn HN1.out HE1.out).mono ?_;rintro ee w2 ⟨s1,A1,n1,c1,rfl,p1,k1,B⟩;clear xX1;replace X1:=X1.b B;replace XR:=XR.b B;replace hT:=hT.b B;replace HB:=Hqb HB B;clear B;have xX1:=X1.cell;have zX10:=X1.frozen
 go_upto_region 2 with (fail)
 clear xX1 zX10;generalize hS:((w2.setCell _ _).setCell _ _).setCell _ _=w3 at *;have SX:=StN.of3 X1 hS;replace XR:=XR.s SX;replace hT:=hT.s SX;replace p1:=p1.s SX;replace HB:=Hqs HB SX (by omega);replace X1:=SX.box;clear SX hS;have xX1:=X1.cell;have hd:=HD.out
 go_wp2_with fail
 refine(dMake hT p1.wr (by clear hd;omega) HN.out HE.out).mono ?_;rintro ee w4 ⟨s4,A4,n4,c4,rfl,p4,k4,B⟩;clear xX1;replace XR:=XR.b B;replace HB:=Hqb HB B;clear B;clear hd;have xXR:=XR.cell;have zXR0:=XR.frozen;go_wp2;clear xXR zXR0;have SX:=StN.mk3 XR (.bool s4) (.slice A4 n4 c4) (.int .i64 E);replace p4:=p4.s SX
 exact bq (v:= .agg #[.bool s4,.slice A4 n4 c4,.int .i64 E]) (by simp[results,Tryz.results212,go_sem,SX.box.cell]) rfl ⟨s4,A4,n4,c4,rfl,p4,by omega,(SX.below HB.out (by omega))⟩
theorem dfloor_up{w:World}{A:Option Addr}{n c:Nat}{s:Bool}{z e N1 E1 r:Int}(hT:Tab w)(h:Wr w s A n c z)(hn:n<=100000)(HN1:Hid ((mk z e).1=N1))(HE1:Hid ((mk z e).2=E1))(h0:0<=E1)(hb:E1<=4194304)(HR:Hid (N1*((2^(E1-0).toNat:Nat):Int)=r)):
  Calls Tryz.prog 211 #[.agg #[.bool s,.slice A n c,.int .i64 e]] w (W1 w (n+131100) r):=by
 go_enter Tryz.func211,Tryz.ntmps211
 go_upto_region 1 with (fail)
 generalize hW1:(w.alloc _).alloc _=w1 at *;obtain⟨X1,XR,HB⟩:=Bo.en2 hW1;replace hT:=hT.below HB.out;replace h:=h.below HB.out;clear hW1;have xX1:=X1.cell
 go_wp2_with fail
 refine(dTaken hT h hn HN1.out HE1.out).mono ?_;rintro ee w2 ⟨s1,A1,n1,c1,rfl,p1,k1,B⟩;clear xX1;replace X1:=X1.b B;replace XR:=XR.b B;replace HB:=Hqb HB B;clear B;have xX1:=X1.cell;have zX10:=X1.frozen
 go_upto_region 2 with (fail)
 clear xX1 zX10;generalize hS:((w2.setCell _ _).setCell _ _).setCell _ _=w3 at *;have SX:=StN.of3 X1 hS;replace XR:=XR.s SX;replace p1:=p1.s SX;replace HB:=Hqs HB SX (by omega);replace X1:=SX.box;clear SX hS;have xX1:=X1.cell
 go_wp2_with fail
 refine(dTimes p1 (by omega) h0 (by omega) HR.out).mono ?_;rintro ee w4 ⟨s4,A4,n4,c4,rfl,p4,k4,B⟩;clear xX1;replace XR:=XR.b B;replace HB:=Hqb HB B;clear B;have xXR:=XR.cell;have zXR0:=XR.frozen;go_wp2;clear xXR zXR0;generalize hS:(w4.setCell _ _).setCell _ _=w5 at *;have SX:=StN.of2 XR hS;replace p4:=p4.s SX
 replace HB:=Hqs HB SX (by omega);replace XR:=SX.box;clear SX hS
 have k0:(E1-0).toNat/32<=131072:=by omega
 exact bq (v:= .agg #[.bool s4,.slice A4 n4 c4]) (by simp[results,Tryz.results211,go_sem,XR.cell]) rfl ⟨s4,A4,n4,c4,rfl,p4,by omega,HB.out⟩
theorem dfloor_neg{w:World}{A:Option Addr}{n c:Nat}{s:Bool}{z e N1 E1 r:Int}(hT:Tab w)(h:Wr w s A n c z)(hn:n<=100000)(HN1:Hid ((mk z e).1=N1))(HE1:Hid ((mk z e).2=E1))(h0:E1 < 0)(hb: -4194304<=E1)(hs:N1 < 0)(HR:Hid (-((N1.natAbs/2^(-E1).toNat+1:Nat):Int)=r)):
  Calls Tryz.prog 211 #[.agg #[.bool s,.slice A n c,.int .i64 e]] w (W1 w (n+131100) r):=by
 obtain⟨d,hd⟩:∃d,-E1=d:=⟨_,rfl⟩;have HD:=ie hd
 have hd0:0<=d:=by omega
 have hd1:d<=4194304:=by omega
 have HW:Hid (IntKind.i64.wrap (-E1)=d):=ie (by rw[hd];exact IntWalk.i64_in _ (by omega))
 rw[hd]at HR;clear hd
 go_enter Tryz.func211,Tryz.ntmps211
 go_upto_region 1 with (fail)
 generalize hW1:(w.alloc _).alloc _=w1 at *;obtain⟨X1,XR,HB⟩:=Bo.en2 hW1;replace hT:=hT.below HB.out;replace h:=h.below HB.out;clear hW1;have xX1:=X1.cell
 go_wp2_with fail
 refine(dTaken hT h hn HN1.out HE1.out).mono ?_;rintro ee w2 ⟨s1,A1,n1,c1,rfl,p1,k1,B⟩;clear xX1;replace X1:=X1.b B;replace XR:=XR.b B;replace HB:=Hqb HB B;clear B;have xX1:=X1.cell;have zX10:=X1.frozen
 go_upto_region 2 with (fail)
 clear xX1 zX10;generalize hS:((w2.setCell _ _).setCell _ _).setCell _ _=w3 at *;have SX:=StN.of3 X1 hS;replace XR:=XR.s SX;replace p1:=p1.s SX;replace HB:=Hqs HB SX (by omega);replace X1:=SX.box;clear SX hS
 obtain rfl:s1=true:=by rw[p1.2];simp;omega
 have xX1:=X1.cell;have hw:=HW.out
 go_wp2_with fail
 refine(vShrE p1.1.rd (by clear hw;omega) rfl).mono ?_;rintro ee w4 ⟨A3,n3,c3,rfl,p3,k3,B⟩;clear xX1;replace X1:=X1.b B;replace XR:=XR.b B;replace HB:=Hqb HB B;clear B;clear hw;have xX1:=X1.cell
 go_wp2_with fail
 refine(vAdd (p3.rd.below (bel1 _ _)) (one_rd _) (by omega) (by omega)).mono ?_;rintro ee w5 ⟨A6,n6,c6,rfl,p6,k6,B⟩;replace B:=bt (bel1 _ _) B;clear xX1;replace X1:=X1.b B;replace XR:=XR.b B;replace HB:=Hqb HB B;clear B;have xX1:=X1.cell
 go_wp2_with fail
 refine(wMake true p6.rd).mono ?_;rintro ee w6 ⟨s4,A4,n4,c4,rfl,p4,k4,B⟩;clear xX1;replace XR:=XR.b B;replace HB:=Hqb HB B;clear B
 replace p4:Wn w6 s4 A4 n4 c4 r:=by
  have e:=HR.out;rw[<-e];exact p4
 have xXR:=XR.cell;have zXR0:=XR.frozen;go_wp2;clear xXR zXR0;have SX:=StN.t2 XR s4 A4 n4 c4;replace p4:=p4.s SX;exact bq (v:= .agg #[.bool s4,.slice A4 n4 c4]) (by simp[results,Tryz.results211,go_sem,SX.box.cell]) rfl ⟨s4,A4,n4,c4,rfl,p4,by omega,(SX.below HB.out (by omega))⟩
theorem dfloor_pos{w:World}{A:Option Addr}{n c:Nat}{s:Bool}{z e N1 E1 r:Int}(hT:Tab w)(h:Wr w s A n c z)(hn:n<=100000)(HN1:Hid ((mk z e).1=N1))(HE1:Hid ((mk z e).2=E1))(h0:E1 < 0)(hb: -4194304<=E1)(hs:0<=N1)(HR:Hid (((N1.natAbs/2^(-E1).toNat:Nat):Int)=r)):
  Calls Tryz.prog 211 #[.agg #[.bool s,.slice A n c,.int .i64 e]] w (W1 w (n+131100) r):=by
 obtain⟨d,hd⟩:∃d,-E1=d:=⟨_,rfl⟩;have HD:=ie hd
 have hd0:0<=d:=by omega
 have hd1:d<=4194304:=by omega
 have HW:Hid (IntKind.i64.wrap (-E1)=d):=ie (by rw[hd];exact IntWalk.i64_in _ (by omega))
 rw[hd]at HR;clear hd
 go_enter Tryz.func211,Tryz.ntmps211
 go_upto_region 1 with (fail)
 generalize hW1:(w.alloc _).alloc _=w1 at *;obtain⟨X1,XR,HB⟩:=Bo.en2 hW1;replace hT:=hT.below HB.out;replace h:=h.below HB.out;clear hW1;have xX1:=X1.cell
 go_wp2_with fail
 refine(dTaken hT h hn HN1.out HE1.out).mono ?_;rintro ee w2 ⟨s1,A1,n1,c1,rfl,p1,k1,B⟩;clear xX1;replace X1:=X1.b B;replace XR:=XR.b B;replace HB:=Hqb HB B;clear B;have xX1:=X1.cell;have zX10:=X1.frozen
 go_upto_region 2 with (fail)
 clear xX1 zX10;generalize hS:((w2.setCell _ _).setCell _ _).setCell _ _=w3 at *;have SX:=StN.of3 X1 hS;replace XR:=XR.s SX;replace p1:=p1.s SX;replace HB:=Hqs HB SX (by omega);replace X1:=SX.box;clear SX hS
 obtain rfl:s1=false:=by rw[p1.2];simp;omega
 have xX1:=X1.cell;have hw:=HW.out
 go_wp2_with fail
 refine(vShrE p1.1.rd (by clear hw;omega) rfl).mono ?_;rintro ee w4 ⟨A3,n3,c3,rfl,p3,k3,B⟩;clear xX1;replace X1:=X1.b B;replace XR:=XR.b B;replace HB:=Hqb HB B;clear B;clear hw;have xX1:=X1.cell
 go_wp2_with fail
 refine(wMake false p3.rd).mono ?_;rintro ee w6 ⟨s4,A4,n4,c4,rfl,p4,k4,B⟩;clear xX1;replace XR:=XR.b B;replace HB:=Hqb HB B;clear B
 replace p4:Wn w6 s4 A4 n4 c4 r:=by
  have e:=HR.out;rw[<-e];exact p4
 have xXR:=XR.cell;have zXR0:=XR.frozen;go_wp2;clear xXR zXR0;have SX:=StN.t2 XR s4 A4 n4 c4;replace p4:=p4.s SX;exact bq (v:= .agg #[.bool s4,.slice A4 n4 c4]) (by simp[results,Tryz.results211,go_sem,SX.box.cell]) rfl ⟨s4,A4,n4,c4,rfl,p4,by omega,(SX.below HB.out (by omega))⟩
theorem dFloor{w:World}{A:Option Addr}{n c:Nat}{s:Bool}{z e r:Int}(hT:Tab w)(h:Wr w s A n c z)(hn:n<=100000)(hr:flr (mk z e).1 (mk z e).2=r):
  Calls Tryz.prog 211 #[.agg #[.bool s,.slice A n c,.int .i64 e]] w (W1 w (n+131100) r):=by
 have hb:=mk_bd z e
 have hnf:=(mk_nf z e).cases
 by_cases h0:0<=(mk z e).2
 ·exact dfloor_up hT h hn (ie rfl) (ie rfl) h0 hb.2 (ie (by rw[<-hr,Int.sub_zero];unfold flr;rw[if_pos h0]))
 ·have hod:(mk z e).1.natAbs%2=1:=by
   rcases hnf with e1 | ⟨_,e1,_⟩
   ·rw[e1]at h0;simp at h0
   ·exact e1
  by_cases hs:(mk z e).1 < 0
  ·exact dfloor_neg hT h hn (ie rfl) (ie rfl) (by omega) hb.1 hs (ie (by rw[<-hr,flr_neg (by omega) hod hs]))
  ·exact dfloor_pos hT h hn (ie rfl) (ie rfl) (by omega) hb.1 (by omega) (ie (by rw[<-hr,flr_pos (by omega) (by omega)]))
set_option linter.unusedSimpArgs false
theorem vShlA{w:World}{A1:Option Addr}{n c1 a r:Nat}{z:Int}(h1:Rd w A1 n c1 a)(hn:n<=1000000)(hz:z<=16777216)(hr:a*2^z.toNat=r):Calls Tryz.prog 119 #[.slice A1 n c1,.int .i64 z] w (P1 w (n+z.toNat/32+1) r):=by
 subst hr
 by_cases h0:z < 1
 ·rw[show z.toNat=0 by omega,Nat.pow_zero,Nat.mul_one]
  refine(vShl_low z h1 h0).mono ?_;rintro e w' ⟨A,m,c,e,h,k,B⟩;exact⟨A,m,c,e,h,by omega,B⟩
 ·have:=vShl z.toNat h1 (by omega) (by omega)
  rwa [show ((z.toNat:Nat):Int)=z by omega]at this
def PU (w:World)(z:Int)(e:Ending)(w':World):Prop:=e= .returned (.int .u64 z)/\Below w.heap.size w w'
theorem tp_word{a:Nat}{v:Int}(hv:v=(blen a:Int)-64):a/2^v.toNat*2^(-v).toNat=tp a:=by
 subst hv
 rcases Nat.lt_or_ge (blen a) 64 with h | h
 ·rw[show ((blen a:Int)-64).toNat=0 by omega,Nat.pow_zero,Nat.div_one,tp_small (by omega),show (-((blen a:Int)-64)).toNat=64-blen a by omega]
 ·rw[show (-((blen a:Int)-64)).toNat=0 by omega,Nat.pow_zero,Nat.mul_one,tp_big h,show ((blen a:Int)-64).toNat=blen a-64 by omega]
theorem limbs_two{v:Nat}(h1:4294967296<=v)(h2:v < 18446744073709551616):limbs v=[v%4294967296,v/4294967296]:=by
 rw[limbs_pos (by omega),limbs_pos (by omega),show v/4294967296/4294967296=0 by omega,limbs_zero,Nat.mod_eq_of_lt (show v/4294967296 < 4294967296 by omega)]
theorem nWord{w:World}{A:Option Addr}{n c a:Nat}{L T:Int}(h:Rd w A n c a)(hn:n<=100000)(h0:a≠0)(hL:((blen a:Nat):Int)=L)(hT:((tp a:Nat):Int)=T):Calls Tryz.prog 273 #[.slice A n c,.int .i64 L] w (PU w T):=by
 have hb:=h.blen_le;obtain⟨v,hv⟩:∃v:Int,L-64=v:=⟨_,rfl⟩;have hw:=tp_word (a:=a) (v:=v) (by omega)
 have HW1:Hid (IntKind.i64.wrap (L-64)=v):=ie (by rw[hv];exact IntWalk.i64_in _ (by omega))
 have HW2:=iw (-v);obtain⟨q,hq⟩:∃q,a/2^v.toNat=q:=⟨_,rfl⟩;rw[hq]at hw;have HQ:=ie hq;have HT:=ie hw;have g1:=tp_ge h0;have g2:=tp_lt a
 revert hT g1 g2 HT
 generalize tp a=W
 intro hT HT g1 g2
 have hlm:=limbs_two (v:=W) (by omega) (by omega);obtain⟨X,hX0⟩:∃X,W/4294967296=X:=⟨_,rfl⟩;obtain⟨Y,hY0⟩:∃Y,W%4294967296=Y:=⟨_,rfl⟩;rw[hX0,hY0]at hlm
 have hX:X < 4294967296:=by omega
 have hY:Y < 4294967296:=by omega
 have hTT:(X:Int)*4294967296+(Y:Int)=T:=by omega
 have hor:=or_join X Y hX hY;rw[hTT]at hor
 have HS1:=ie (show IntKind.u64.wrap (X:Int)=X from IntWalk.u64_in _ (by omega))
 have HS2:=ie (show IntKind.u64.wrap ((X:Int)*4294967296)=(X:Int)*4294967296 from IntWalk.u64_in _ (by omega))
 have HS3:=ie (show IntKind.u64.wrap (Y:Int)=Y from IntWalk.u64_in _ (by omega))
 have hv1: -64<=v:=by omega
 have hv2:v<=3200000:=by omega
 have HO:=ie hor;have HL:=ie hlm;clear hor hlm hTT hT g1 g2 hw hq hv hL hX0 hY0
 go_enter Tryz.func273,Tryz.ntmps273
 have HB:=ie (Below.refl w.heap.size w);have hw1:=HW1.out
 go_wp2_with fail
 refine(vShrE h (by omega) HQ.out).mono ?_;rintro ee w2 ⟨A2,n2,c2,rfl,p2,k2,B⟩;replace h:=h.b B;replace HB:=Hqb HB B;clear B;clear hw1;have hw2:=HW2.out
 go_wp2_with fail
 refine(vShlA p2.rd (by omega) (by omega) HT.out).mono ?_;rintro ee w3 ⟨A3,n3,c3,rfl,p3,k3,B⟩;replace HB:=Hqb HB B;clear B;clear hw2 HW1 HW2 HQ HT;obtain⟨b,hs⟩:=p3;have hl:=hs.len;rw[HL.out]at hs hl
 obtain rfl:2=n3:=hl
 obtain⟨o,rfl,hc⟩:=hs.at (by decide);have c0:=hc 0 (by decide);have c1:=hc 1 (by decide);rw[List.getD_cons_zero,Nat.add_zero]at c0;rw[List.getD_cons_succ,List.getD_cons_zero]at c1;clear hc hs HL
 go_upto_region 3 with (fail)
 refine jk [0,1,2,3,4,5,6,7,8,9,10] [some 15,some 16,some 17,some 18,some 19,some 20,some 21,some 22,some 23,some 24,some 4] [[],[0],[1],[2],[3],[],[5],[6],[7],[4,8],[9]] 11 0 [Jo.Fact.eq (.slice (some ⟨b,o,none⟩) 2 c3),Jo.Fact.eq (.pointer (some ⟨b,o+1,none⟩)),Jo.Fact.eq (.int .u32 (X:Int)),Jo.Fact.eq (.int .u64 (X:Int)),Jo.Fact.eq (.int .u64 ((X:Int)*4294967296)),Jo.Fact.eq (.slice (some ⟨b,o,none⟩) 2 c3),Jo.Fact.eq (.pointer (some ⟨b,o,none⟩)),Jo.Fact.eq (.int .u32 (Y:Int)),Jo.Fact.eq (.int .u64 (Y:Int)),Jo.Fact.eq (.int .u64 T),Jo.Fact.eq (.int .u64 T)] ?_ ?_
 ·iterate 2 (refine jm ?_ ?_;rotate_left)
  refine jm ?_ ?_
  ·rintro wj hJ _ rfl K hK;simp only[Jo.z]at hK|-
   have c0':=(hJ.cell (p:=⟨b,_,none⟩) (block_lt_of_cell c0)).trans c0
   have c1':=(hJ.cell (p:=⟨b,_,none⟩) (block_lt_of_cell c1)).trans c1
   go_simp;exact hK.out _ _ rfl (br _ _)
  refine jm ?_ ?_
  ·rintro wj hJ _ rfl K hK;simp only[Jo.z]at hK|-;have hs1:=HS1.out;go_simp;exact hK.out _ _ rfl (br _ _)
  refine jm ?_ ?_
  ·rintro wj hJ _ rfl K hK;simp only[Jo.z]at hK|-;have hs2:=HS2.out;go_simp;exact hK.out _ _ rfl (br _ _)
  iterate 2 (refine jm ?_ ?_;rotate_left)
  refine jm ?_ ?_
  ·rintro wj hJ _ rfl K hK;simp only[Jo.z]at hK|-
   have c0':=(hJ.cell (p:=⟨b,_,none⟩) (block_lt_of_cell c0)).trans c0
   have c1':=(hJ.cell (p:=⟨b,_,none⟩) (block_lt_of_cell c1)).trans c1
   go_simp;exact hK.out _ _ rfl (br _ _)
  refine jm ?_ ?_
  ·rintro wj hJ _ rfl K hK;simp only[Jo.z]at hK|-;have hs3:=HS3.out;go_simp;exact hK.out _ _ rfl (br _ _)
  refine jm ?_ ?_
  ·rintro wj hJ _ rfl _ rfl K hK;simp only[Jo.z]at hK|-;have hor:=HO.out;go_simp;exact hK.out _ _ rfl (br _ _)
  refine jm ?_ ?_;rotate_left
  exact jo
  all_goals (rintro wj hJ;(repeat rintro _ rfl);intro K hK;simp only[Jo.z]at hK|-;go_simp;exact hK.out _ _ rfl (br _ _))
 rintro w4 hJ _ rfl _ _ _ rfl _ rfl _ rfl _ rfl _ _ _ rfl _ rfl _ rfl _ rfl -;simp only[Jo.z];replace HB:=Hqb HB hJ;refine jd ?_;go_wp2
 go_ret
 exact⟨rfl,HB.out⟩
def PNB (w:World)(r:Int)(t:Bool)(e:Ending)(w':World):Prop:=∃K s M E,e= .returned (.tuple #[.agg #[.int .i64 K,.bool s,.int .u64 M,.int .i64 E],.bool t])/\Fq K s M E r/\Below w.heap.size w w'
theorem ncut_zero{w:World}{A:Option Addr}{n c a:Nat}{s:Bool}{E L x r:Int}{t:Bool}(h:Rd w A n c a)(hn:n<=100000)(b1: -4194304<=E)(b2:E<=4194304)(h0:a=0)(hr:0=r)(ht:true=t):
  Calls Tryz.prog 268 #[.agg #[.bool s,.slice A n c,.int .i64 E]] w (PNB w r t):=by
 have hb:=h.blen_le;subst h0;subst hr;subst ht
 go_enter Tryz.func268,Tryz.ntmps268
 go_upto_region 1 with (fail)
 generalize hW1:(w.alloc _).alloc _=w1 at *;obtain⟨X1,XR,HB⟩:=Bo.en2 hW1;replace h:=h.below HB.out;clear hW1;have xX1:=X1.cell
 go_wp2_with fail
 refine(vLenE (z:=0) h rfl).mono ?_;rintro ee w2 ⟨rfl,B⟩;clear xX1;replace X1:=X1.b B;replace XR:=XR.b B;replace HB:=Hqb HB B;clear B;have xXR:=XR.cell;have zXR0:=XR.frozen;have xX1:=X1.cell;go_wp2;clear xXR zXR0 xX1;have SX:=StN.t4 XR 0 false 0 0
 exact bq (v:= .tuple #[.agg #[.int .i64 0,.bool false,.int .u64 0,.int .i64 0],.bool true]) (by simp[results,Tryz.results268,go_sem,SX.box.cell]) rfl ⟨_,_,_,_,rfl,Fq.nought,(SX.below HB.out (by omega))⟩
theorem ncut_big{w:World}{A:Option Addr}{n c a:Nat}{s:Bool}{E L x r:Int}(h:Rd w A n c a)(hn:n<=100000)(b1: -4194304<=E)(b2:E<=4194304)(h0:a≠0)(hL:((blen a:Nat):Int)=L)(hx:E+L-64=x)(hx3:1048576 < x)(hr:sgi s 19342822337206103650074624=r):
  Calls Tryz.prog 268 #[.agg #[.bool s,.slice A n c,.int .i64 E]] w (PNB w r false):=by
 have hb:=h.blen_le
 have h1:blen a≠0:=fun e=>h0 (blen_eq_zero.1 e)
 have HL:=ie hL;have HX1:=iw (E+L)
 have HX2:Hid (IntKind.i64.wrap (E+L-64)=x):=ie (by rw[hx];exact IntWalk.i64_in _ (by omega))
 have e0:(L==0)=false:=by
  have:L≠0:=by omega
  simpa using this
 have hF:Fq 1 s 18446744073709551615 1048576 r:=Fq.fin (by decide) (by decide) (by decide) (by decide) hr
 clear hL hx hr h1
 go_enter Tryz.func268,Tryz.ntmps268
 go_upto_region 1 with (fail)
 generalize hW1:(w.alloc _).alloc _=w1 at *;obtain⟨X1,XR,HB⟩:=Bo.en2 hW1;replace h:=h.below HB.out;clear hW1;have xX1:=X1.cell
 go_wp2_with fail
 refine(vLenE h HL.out).mono ?_;rintro ee w2 ⟨rfl,B⟩;clear xX1;replace X1:=X1.b B;replace XR:=XR.b B;replace HB:=Hqb HB B;clear B;have hx1:=HX1.out;have hx2:=HX2.out;have xX1:=X1.cell
 go_wp2_with fail
 refine(nH).mono ?_;rintro ee w3 ⟨rfl,B⟩;clear xX1;replace X1:=X1.b B;replace XR:=XR.b B;replace HB:=Hqb HB B;clear B;have xXR:=XR.cell;have zXR0:=XR.frozen;have xX1:=X1.cell;go_wp2;clear xXR zXR0 xX1;have SX:=StN.t4 XR 1 s 18446744073709551615 1048576
 exact bq (v:= .tuple #[.agg #[.int .i64 1,.bool s,.int .u64 18446744073709551615,.int .i64 1048576],.bool false]) (by simp[results,Tryz.results268,go_sem,SX.box.cell]) rfl ⟨_,_,_,_,rfl,hF,(SX.below HB.out (by omega))⟩
theorem ncut_low{w:World}{A:Option Addr}{n c a:Nat}{s:Bool}{E L x:Int}(h:Rd w A n c a)(hn:n<=100000)(b1: -4194304<=E)(b2:E<=4194304)(h0:a≠0)(hL:((blen a:Nat):Int)=L)(hx:E+L-64=x)(hx3:x < -1048576):
  Calls Tryz.prog 268 #[.agg #[.bool s,.slice A n c,.int .i64 E]] w (PNB w 0 false):=by
 have hb:=h.blen_le
 have h1:blen a≠0:=fun e=>h0 (blen_eq_zero.1 e)
 have HL:=ie hL;have HX1:=iw (E+L)
 have HX2:Hid (IntKind.i64.wrap (E+L-64)=x):=ie (by rw[hx];exact IntWalk.i64_in _ (by omega))
 have e0:(L==0)=false:=by
  have:L≠0:=by omega
  simpa using this
 clear hL hx h1
 go_enter Tryz.func268,Tryz.ntmps268
 go_upto_region 1 with (fail)
 generalize hW1:(w.alloc _).alloc _=w1 at *;obtain⟨X1,XR,HB⟩:=Bo.en2 hW1;replace h:=h.below HB.out;clear hW1;have xX1:=X1.cell
 go_wp2_with fail
 refine(vLenE h HL.out).mono ?_;rintro ee w2 ⟨rfl,B⟩;clear xX1;replace X1:=X1.b B;replace XR:=XR.b B;replace HB:=Hqb HB B;clear B;have hx1:=HX1.out;have hx2:=HX2.out;have xXR:=XR.cell;have zXR0:=XR.frozen;have xX1:=X1.cell;go_wp2;clear xXR zXR0 xX1;have SX:=StN.t4 XR 0 false 0 0
 exact bq (v:= .tuple #[.agg #[.int .i64 0,.bool false,.int .u64 0,.int .i64 0],.bool false]) (by simp[results,Tryz.results268,go_sem,SX.box.cell]) rfl ⟨_,_,_,_,rfl,Fq.nought,(SX.below HB.out (by omega))⟩
theorem ncut_mid{w:World}{A:Option Addr}{n c a:Nat}{s:Bool}{E L x r:Int}{t:Bool}(h:Rd w A n c a)(hn:n<=100000)(b1: -4194304<=E)(b2:E<=4194304)(h0:a≠0)(hL:((blen a:Nat):Int)=L)(hx:E+L-64=x)(hx3: -1048576<=x)(hx4:x<=1048576)(hr:sgi s ((tp a:Int)-9223372036854775808+1+(x+1048576)*9223372036854775808)=r)(ht:decide (L<=64)=t):
  Calls Tryz.prog 268 #[.agg #[.bool s,.slice A n c,.int .i64 E]] w (PNB w r t):=by
 have hb:=h.blen_le
 have h1:blen a≠0:=fun e=>h0 (blen_eq_zero.1 e)
 have HL:=ie hL;have HX1:=iw (E+L)
 have HX2:Hid (IntKind.i64.wrap (E+L-64)=x):=ie (by rw[hx];exact IntWalk.i64_in _ (by omega))
 have e0:(L==0)=false:=by
  have:L≠0:=by omega
  simpa using this
 obtain⟨T,hT⟩:∃T,((tp a:Nat):Int)=T:=⟨_,rfl⟩;rw[hT]at hr
 have hF:Fq 1 s T x r:=by
  have g1:=tp_ge h0;have g2:=tp_lt a;exact Fq.fin (by omega) (by omega) hx3 hx4 hr
 have HT:=ie hT;have HTT:=ie ht;clear hL hx hr h1 hT ht
 go_enter Tryz.func268,Tryz.ntmps268
 go_upto_region 1 with (fail)
 generalize hW1:(w.alloc _).alloc _=w1 at *;obtain⟨X1,XR,HB⟩:=Bo.en2 hW1;replace h:=h.below HB.out;clear hW1;have xX1:=X1.cell
 go_wp2_with fail
 refine(vLenE h HL.out).mono ?_;rintro ee w2 ⟨rfl,B⟩;clear xX1;replace X1:=X1.b B;replace XR:=XR.b B;replace h:=h.b B;replace HB:=Hqb HB B;clear B;have hx1:=HX1.out;have hx2:=HX2.out;have xX1:=X1.cell
 go_upto_region 9 with (fail)
 clear hx1 hx2;clear xX1;refine Jo.rl (w.heap.size+1) #[.int .i64 1,.bool s,.int .u64 T,.int .i64 x] 24 [0,1,2,3,4,5,6,7,8,9,10,11,12] [some 27,some 28,some 29,some 30,some 31,some 32,some 33,some 34,some 35,some 36,some 37,some 38,none,some 3] [[],[0],[1],[],[3],[4],[],[5,6],[],[2,7,8],[],[10],[9],[]] 14 1 [Jo.kp w.heap.size 0,Jo.kp w.heap.size 0,Jo.LFact.eq (.bool s),Jo.kp w.heap.size 0,Jo.kp w.heap.size 1,Jo.LFact.eq (.slice A n c),Jo.LFact.eq (.int .i64 L),Jo.LFact.eq (.int .u64 T),Jo.LFact.eq (.int .i64 x),Jo.LFact.eq (.agg #[.int .i64 1,.bool s,.int .u64 T,.int .i64 x]),Jo.LFact.eq (.int .i64 L),Jo.LFact.eq (.bool t),Jo.LFact.done,Jo.LFact.any] (by kernel_rfl) (by kernel_rfl) (by decide) rfl ?_ ?_
 ·refine Jo.lm rfl ?_ ?_
  ·rintro wj hJ K hK;simp only[Jo.z]at hK|-;go_simp;exact hK.out _ _ rfl (Jo.Off.refl _ _ _ _)
  refine Jo.lm rfl ?_ ?_
  ·rintro wj hJ _ rfl K hK;simp only[Jo.z]at hK|-;go_simp;exact hK.out _ _ rfl (Jo.Off.refl _ _ _ _)
  refine Jo.lm rfl ?_ ?_
  ·rintro wj hJ _ rfl K hK;simp only[Jo.z]at hK|-;replace X1:=X1.off (by omega) hJ;have xX1:=X1.cell;go_simp;exact hK.out _ _ rfl (Jo.Off.refl _ _ _ _)
  refine Jo.lm rfl ?_ ?_
  ·rintro wj hJ K hK;simp only[Jo.z]at hK|-;go_simp;exact hK.out _ _ rfl (Jo.Off.refl _ _ _ _)
  refine Jo.lm rfl ?_ ?_
  ·rintro wj hJ _ rfl K hK;simp only[Jo.z]at hK|-;go_simp;exact hK.out _ _ rfl (Jo.Off.refl _ _ _ _)
  refine Jo.lm rfl ?_ ?_
  ·rintro wj hJ _ rfl K hK;simp only[Jo.z]at hK|-;replace X1:=X1.off (by omega) hJ;have xX1:=X1.cell;go_simp;exact hK.out _ _ rfl (Jo.Off.refl _ _ _ _)
  refine Jo.lm rfl ?_ ?_
  ·rintro wj hJ K hK;simp only[Jo.z]at hK|-;go_simp;exact hK.out _ _ rfl (Jo.Off.refl _ _ _ _)
  refine Jo.lm rfl ?_ ?_
  ·rintro wj hJ _ rfl _ rfl K hK;simp only[Jo.z]at hK|-;go_simp;refine(nWord (h.off XR (by simp[no32]) hJ) hn h0 HL.out HT.out).mono ?_;rintro ee wk ⟨rfl,B⟩;exact hK.out _ _ rfl (Jo.Off.of_below B (Nat.lt_of_lt_of_le XR.lt hJ.size))
  refine Jo.lm rfl ?_ ?_
  ·rintro wj hJ K hK;simp only[Jo.z]at hK|-;go_simp;exact hK.out _ _ rfl (Jo.Off.refl _ _ _ _)
  refine Jo.lm rfl ?_ ?_
  ·rintro wj hJ _ rfl _ rfl _ rfl K hK;simp only[Jo.z]at hK|-;go_simp;exact hK.out _ _ rfl (Jo.Off.refl _ _ _ _)
  refine Jo.lm rfl ?_ ?_
  ·rintro wj hJ K hK;simp only[Jo.z]at hK|-;go_simp;exact hK.out _ _ rfl (Jo.Off.refl _ _ _ _)
  refine Jo.lm rfl ?_ ?_
  ·rintro wj hJ _ rfl K hK;simp only[Jo.z]at hK|-;have htt:=HTT.out;go_simp
   exact hK.out _ _ (by first | rfl | (show Value.bool _=Value.bool _;rw[htt])) (Jo.Off.refl _ _ _ _)
  refine Jo.lm rfl ?_ ?_
  ·rintro wj hJ _ rfl K hK;simp only[Jo.z]at hK|-
   obtain⟨v0,v1,v2,v3,XO⟩:∃v0 v1 v2 v3,Bo wj (w.heap.size+1) #[v0,v1,v2,v3] 24:=by
    rcases hJ.own with e | e
    ·exact⟨_,_,_,_,XR.keep e⟩
    ·exact⟨_,_,_,_,e⟩
   have y0:=XO.a 0 (v0) rfl;have u0:=XO.frozen 0;have y1:=XO.a 1 (v1) rfl;have u1:=XO.frozen 1;have y2:=XO.a 2 (v2) rfl;have u2:=XO.frozen 2;have y3:=XO.a 3 (v3) rfl;have u3:=XO.frozen 3;go_simp;have SX:=StN.t4 XO 1 s T x;exact hK.out undef _ SX.box (Jo.Off.of_stn SX)
  exact jo
 rintro w3 hJ _ _ _ _ _ rfl _ _ _ _ _ rfl _ rfl _ rfl _ rfl _ rfl _ rfl _ rfl u12 d12 -;simp only[Jo.z];replace HB:=ie (hJ.below HB.out (by omega) XR.lt)
 replace XR:Bo w3 (w.heap.size+1) #[.int .i64 1,.bool s,.int .u64 T,.int .i64 x] 24:=d12
 refine jn 13 fun K hK=>?_
 go_simp;refine hK.out _ _ ?_;clear hK K;refine jd ?_;go_wp2;exact bq (v:= .tuple #[.agg #[.int .i64 1,.bool s,.int .u64 T,.int .i64 x],.bool t]) (by simp[results,Tryz.results268,go_sem,XR.cell]) rfl ⟨_,_,_,_,rfl,hF,HB.out⟩
theorem nCut{w:World}{A:Option Addr}{n c a:Nat}{s:Bool}{E r:Int}{t:Bool}(h:Rd w A n c a)(hn:n<=100000)(b1: -4194304<=E)(b2:E<=4194304)(hr:sgi s (lo a E)=r)(ht:ext a E=t):
  Calls Tryz.prog 268 #[.agg #[.bool s,.slice A n c,.int .i64 E]] w (PNB w r t):=by
 unfold lo at hr
 unfold ext at ht
 by_cases h0:a=0
 ·rw[if_pos h0]at hr
  have e0:(a==0)=true:=by simpa using h0
  rw[e0]at ht
  exact ncut_zero (L:=0) (x:=0) h hn b1 b2 h0 (by rw[<-hr];cases s <;> rfl) ht
 ·rw[if_neg h0]at hr
  have e0:(a==0)=false:=by simpa using h0
  rw[e0,Bool.false_or]at ht
  have hx:E+((blen a:Nat):Int)-64=xp a E:=rfl
  by_cases c1:1048576 < xp a E
  ·rw[if_pos c1]at hr
   rw[show decide (xp a E<=1048576)=false from df (by omega),Bool.false_and]at ht
   subst ht;exact ncut_big h hn b1 b2 h0 rfl hx c1 hr
  ·rw[if_neg c1]at hr
   rw[show decide (xp a E<=1048576)=true from dt (by omega),Bool.true_and]at ht
   by_cases c2:xp a E < -1048576
   ·rw[if_pos c2]at hr
    rw[show decide (-1048576<=xp a E)=false from df (by omega),Bool.false_and]at ht
    subst ht
    obtain rfl:0=r:=by rw[<-hr];cases s <;> rfl
    exact ncut_low h hn b1 b2 h0 rfl hx c2
   ·rw[if_neg c2]at hr
    rw[show decide (-1048576<=xp a E)=true from dt (by omega),Bool.true_and]at ht
    refine ncut_mid h hn b1 b2 h0 rfl hx (by omega) (by omega) hr ?_;rw[<-ht,Bool.eq_iff_iff]
    simp
    omega
theorem nx_sgi (s:Bool){x:Int}(h0:0<=x)(h1:x<=19342822337206103650074624):nx (!s) (sgi s x)=sgi s (x+1):=by
 have:=TP_eq
 unfold nx
 cases s
 ·show min TP (x+1)=x+1
  omega
 ·show max (-TP) (-x-1)= -(x+1)
  omega
theorem nx_lo{a:Nat}{E:Int}(s:Bool)(h:ext a E=false):nx (!s) (sgi s (lo a E))=sgi s (hi a E):=by
 obtain⟨h1,h2⟩:=lo_bd a E
 have hh:hi a E=lo a E+1:=by
  unfold hi
  rw[h,if_neg (by decide)]
 rw[hh,nx_sgi s h1 h2]
theorem pick_t (s:Bool)(x y:Int)(b:Bool)(h:b=true):sgi s (if b=true then x else y)=sgi s x:=by rw[if_pos h]
theorem pick_f (s:Bool)(x y:Int)(b:Bool)(h:b=false):sgi s (if b=true then x else y)=sgi s y:=by rw[h,if_neg (by decide)]
theorem rnd_ext{up:Bool}{N E:Int}(h:ext N.natAbs E=true):rnd up N E=sgi (decide (N < 0)) (lo N.natAbs E):=by
 unfold rnd hi
 rw[if_pos h]
 cases hb:(up !=decide (N < 0))
 ·exact pick_f _ _ _ _ rfl
 ·exact pick_t _ _ _ _ rfl
theorem rnd_same{up s:Bool}{N E:Int}(hs:s=decide (N < 0))(h:s=up):rnd up N E=sgi s (lo N.natAbs E):=by
 unfold rnd
 rw[<-hs,h]
 exact pick_f _ _ _ _ (by cases up <;> rfl)
theorem rnd_diff{s:Bool}{N E:Int}(hs:s=decide (N < 0)):rnd (!s) N E=sgi s (hi N.natAbs E):=by
 unfold rnd
 rw[<-hs]
 exact pick_t _ _ _ _ (by cases s <;> rfl)
theorem nround_y{w:World}{A:Option Addr}{n c:Nat}{s up:Bool}{z e N E r:Int}(hT:Tab w)(h:Wr w s A n c z)(hn:n<=100000)(hN:(mk z e).1=N)(hE:(mk z e).2=E)(hr:rnd up N E=r)(hm:mayD s n z.natAbs e=true):
  Calls Tryz.prog 251 #[.agg #[.bool s,.slice A n c,.int .i64 e],.bool up] w (PN w r):=by
 obtain⟨b1,b2⟩:=mk_bd z e;rw[hE]at b1 b2;have HM:=ie hm;have HR:=ie hr;obtain⟨hwn,hmk⟩:=mayD_true h hm
 obtain rfl:z=N:=by rw[<-hN,hmk]
 obtain rfl:e=E:=by rw[<-hE,hmk]
 have HSG:=ie hwn.2;have hd:=hwn.1.rd;clear hm hr hN hE hmk hwn
 go_enter Tryz.func251,Tryz.ntmps251
 go_upto_region 1 with (fail)
 generalize hW1:(w.alloc _).alloc _=w1 at *;obtain⟨X1,XR,HB⟩:=Bo.en2 hW1;replace h:=h.below HB.out;replace hd:=hd.below HB.out;clear hW1;have xX1:=X1.cell
 go_wp2_with fail
 refine(dMay h.rd HM.out).mono ?_;rintro ee w2 ⟨rfl,B⟩;clear xX1;replace X1:=X1.b B;replace XR:=XR.b B;replace hd:=hd.b B;replace HB:=Hqb HB B;clear B;obtain⟨x,hx⟩:∃x,sgi s (lo z.natAbs e)=x:=⟨_,rfl⟩;obtain⟨t,ht⟩:∃t,ext z.natAbs e=t:=⟨_,rfl⟩;have HX:=ie hx;have HT:=ie ht;clear hx ht;have xX1:=X1.cell
 go_wp2_with fail
 refine(nCut hd hn b1 b2 HX.out HT.out).mono ?_;rintro ee w5 ⟨K2,s2,M2,E2,rfl,q2,B⟩;clear xX1;replace X1:=X1.b B;replace XR:=XR.b B;replace HB:=Hqb HB B;clear B;clear hd
 go_upto_region 4 with (fail)
 have nX5X1:=X1.lt;have nX5XR:=XR.lt;generalize hWn:w5.alloc _=w6 at *;obtain⟨X5,BW⟩:=Bo.nw hWn;clear hWn;replace X1:=X1.b BW;replace XR:=XR.b BW;replace HB:=Hqb HB BW;clear BW
 by_cases ht:t=true
 ·subst ht
  obtain rfl:x=r:=by rw[<-HX.out,<-HR.out,rnd_ext HT.out,HSG.out]
  have xXR:=XR.cell;have zXR0:=XR.frozen;have xX1:=X1.cell;have xX5:=X5.cell;go_wp2;clear xXR zXR0 xX1 xX5;have SX:=StN.t4 XR K2 s2 M2 E2;exact bq (by simp[results,Tryz.results251,go_sem,SX.box.cell]) rfl ⟨_,_,_,_,rfl,q2,(SX.below HB.out (by omega))⟩
 ·have ht:t=false:=by simpa using ht
  subst ht
  by_cases hs:s=up
  ·obtain rfl:x=r:=by rw[<-HX.out,<-HR.out,rnd_same HSG.out hs]
   subst hs;have xXR:=XR.cell;have zXR0:=XR.frozen;have xX1:=X1.cell;have xX5:=X5.cell;go_wp2;clear xXR zXR0 xX1 xX5;have SX:=StN.t4 XR K2 s2 M2 E2;exact bq (by simp[results,Tryz.results251,go_sem,SX.box.cell]) rfl ⟨_,_,_,_,rfl,q2,(SX.below HB.out (by omega))⟩
  ·obtain rfl:(!s)=up:=by cases s <;> cases up <;> first | rfl | exact absurd rfl hs
   clear hs
   have e2:(s==!s)=false:=by cases s <;> rfl
   have HRR:Hid (nx (!s) (rk K2 s2 M2 E2)=r):=ie (by rw[q2.rk,<-HX.out,nx_lo s HT.out,<-HR.out,rnd_diff HSG.out])
   have xX1:=X1.cell;have xX5:=X5.cell
   go_wp2_with fail
   refine(nNext q2.top HRR.out).mono ?_;rintro ee w7 ⟨K3,s3,M3,E3,rfl,q3,B⟩;clear xX1 xX5;replace X1:=X1.b B;replace XR:=XR.b B;replace X5:=X5.b B;replace HB:=Hqb HB B;clear B;have xXR:=XR.cell;have zXR0:=XR.frozen;have xX1:=X1.cell;have xX5:=X5.cell;go_wp2
   clear xXR zXR0 xX1 xX5;have SX:=StN.t4 XR K3 s3 M3 E3;exact bq (by simp[results,Tryz.results251,go_sem,SX.box.cell]) rfl ⟨_,_,_,_,rfl,q3,(SX.below HB.out (by omega))⟩
theorem nround_n{w:World}{A:Option Addr}{n c:Nat}{s up:Bool}{z e N E r:Int}(hT:Tab w)(h:Wr w s A n c z)(hn:n<=100000)(hN:(mk z e).1=N)(hE:(mk z e).2=E)(hr:rnd up N E=r)(hm:mayD s n z.natAbs e=false):
  Calls Tryz.prog 251 #[.agg #[.bool s,.slice A n c,.int .i64 e],.bool up] w (PN w r):=by
 obtain⟨b1,b2⟩:=mk_bd z e;rw[hE]at b1 b2;have HM:=ie hm;have HR:=ie hr;have HN:=ie hN;have HE:=ie hE;clear hm hr hN hE
 go_enter Tryz.func251,Tryz.ntmps251
 go_upto_region 1 with (fail)
 generalize hW1:(w.alloc _).alloc _=w1 at *;obtain⟨X1,XR,HB⟩:=Bo.en2 hW1;replace hT:=hT.below HB.out;replace h:=h.below HB.out;clear hW1;have xX1:=X1.cell
 go_wp2_with fail
 refine(dMay h.rd HM.out).mono ?_;rintro ee w2 ⟨rfl,B⟩;clear xX1;replace X1:=X1.b B;replace XR:=XR.b B;replace hT:=hT.b B;replace h:=h.b B;replace HB:=Hqb HB B;clear B;have xX1:=X1.cell
 go_wp2_with fail
 refine(dMake hT h hn HN.out HE.out).mono ?_;rintro ee w3 ⟨s1,A1,n1,c1,rfl,p1,k1,B⟩;clear xX1;replace X1:=X1.b B;replace XR:=XR.b B;replace HB:=Hqb HB B;clear B;have xX1:=X1.cell;have zX10:=X1.frozen
 go_upto_region 3 with (fail)
 clear xX1 zX10;generalize hS:((w3.setCell _ _).setCell _ _).setCell _ _=w4 at *;have SX:=StN.of3 X1 hS;replace XR:=XR.s SX;replace p1:=p1.s SX;replace HB:=Hqs HB SX (by omega);replace X1:=SX.box;clear SX hS;have HSG:=ie p1.2;have hd:=p1.1.rd
 have hn1:n1<=100000:=by omega
 clear p1;obtain⟨x,hx⟩:∃x,sgi s1 (lo N.natAbs E)=x:=⟨_,rfl⟩;obtain⟨t,ht⟩:∃t,ext N.natAbs E=t:=⟨_,rfl⟩;have HX:=ie hx;have HT:=ie ht;clear hx ht;have xX1:=X1.cell
 go_wp2_with fail
 refine(nCut hd hn1 b1 b2 HX.out HT.out).mono ?_;rintro ee w5 ⟨K2,s2,M2,E2,rfl,q2,B⟩;clear xX1;replace X1:=X1.b B;replace XR:=XR.b B;replace HB:=Hqb HB B;clear B;clear hd
 go_upto_region 4 with (fail)
 have nX5X1:=X1.lt;have nX5XR:=XR.lt;generalize hWn:w5.alloc _=w6 at *;obtain⟨X5,BW⟩:=Bo.nw hWn;clear hWn;replace X1:=X1.b BW;replace XR:=XR.b BW;replace HB:=Hqb HB BW;clear BW
 by_cases ht:t=true
 ·subst ht
  obtain rfl:x=r:=by rw[<-HX.out,<-HR.out,rnd_ext HT.out,HSG.out]
  have xXR:=XR.cell;have zXR0:=XR.frozen;have xX1:=X1.cell;have xX5:=X5.cell;go_wp2;clear xXR zXR0 xX1 xX5;have SX:=StN.t4 XR K2 s2 M2 E2;exact bq (by simp[results,Tryz.results251,go_sem,SX.box.cell]) rfl ⟨_,_,_,_,rfl,q2,(SX.below HB.out (by omega))⟩
 ·have ht:t=false:=by simpa using ht
  subst ht
  by_cases hs:s1=up
  ·obtain rfl:x=r:=by rw[<-HX.out,<-HR.out,rnd_same HSG.out hs]
   subst hs;have xXR:=XR.cell;have zXR0:=XR.frozen;have xX1:=X1.cell;have xX5:=X5.cell;go_wp2;clear xXR zXR0 xX1 xX5;have SX:=StN.t4 XR K2 s2 M2 E2;exact bq (by simp[results,Tryz.results251,go_sem,SX.box.cell]) rfl ⟨_,_,_,_,rfl,q2,(SX.below HB.out (by omega))⟩
  ·obtain rfl:(!s1)=up:=by cases s1 <;> cases up <;> first | rfl | exact absurd rfl hs
   clear hs
   have e2:(s1==!s1)=false:=by cases s1 <;> rfl
   have HRR:Hid (nx (!s1) (rk K2 s2 M2 E2)=r):=ie (by rw[q2.rk,<-HX.out,nx_lo s1 HT.out,<-HR.out,rnd_diff HSG.out])
   have xX1:=X1.cell;have xX5:=X5.cell
   go_wp2_with fail
   refine(nNext q2.top HRR.out).mono ?_;rintro ee w7 ⟨K3,s3,M3,E3,rfl,q3,B⟩;clear xX1 xX5;replace X1:=X1.b B;replace XR:=XR.b B;replace X5:=X5.b B;replace HB:=Hqb HB B;clear B;have xXR:=XR.cell;have zXR0:=XR.frozen;have xX1:=X1.cell;have xX5:=X5.cell;go_wp2
   clear xXR zXR0 xX1 xX5;have SX:=StN.t4 XR K3 s3 M3 E3;exact bq (by simp[results,Tryz.results251,go_sem,SX.box.cell]) rfl ⟨_,_,_,_,rfl,q3,(SX.below HB.out (by omega))⟩
theorem nRound{w:World}{A:Option Addr}{n c:Nat}{s up:Bool}{z e N E r:Int}(hT:Tab w)(h:Wr w s A n c z)(hn:n<=100000)(hN:(mk z e).1=N)(hE:(mk z e).2=E)(hr:rnd up N E=r):
  Calls Tryz.prog 251 #[.agg #[.bool s,.slice A n c,.int .i64 e],.bool up] w (PN w r):=by
 cases hm:mayD s n z.natAbs e
 ·exact nround_n hT h hn hN hE hr hm
 ·exact nround_y hT h hn hN hE hr hm
def PDB (w:World)(N E:Int)(t:Bool)(e:Ending)(w':World):Prop:=∃s A n c,e= .returned (.tuple #[.agg #[.bool s,.slice A n c,.int .i64 E],.bool t])/\Wn w' s A n c N/\n<=2/\Below w.heap.size w w'
def exb (D:Int)(s:Bool)(M E:Int):Bool:=decide (MayQ D s M E) && !(D==2)
def exq (D:Int)(s:Bool)(M E:Int):Int × Int:=if exb D s M E=true then mk (sgi s M) E else (0,0)
def Jo.Fact.rd (a K:Nat):Jo.Fact:=⟨fun v w=>∃A n c,v= .slice A n c/\Rd w A n c a/\n<=K,fun v w w' h b=>by
 obtain⟨A,n,c,e,h,k⟩:=h;exact⟨A,n,c,e,h.below b,k⟩⟩
theorem lit_rdk (W:World){X Y a:Nat}(hX:X < 4294967296)(hY:Y < 4294967296)(ha:Y+4294967296*X=a):Rd (W.alloc (.cells #[.int .u32 (Y:Int),.int .u32 (X:Int)] 92)) (some ⟨W.heap.size,0,none⟩) 2 2 a:=
 ⟨_,_,lit2 W Y X hY hX,by simp[val];omega⟩
theorem sg_toNat{s:Bool}{M:Int}(h:0<=M):sg s M.toNat=sgi s M:=by
 have:((M.toNat:Nat):Int)=M:=by omega
 unfold sg sgi
 rw[this]
theorem nexact_a{w:World}{D M E:Int}{s:Bool}(hm:decide (MayQ D s M E)=false):Calls Tryz.prog 210 #[VQ D s M E] w (PDB w 0 0 false):=by
 delta VQ
 have HM:=ie hm;clear hm
 go_enter Tryz.func210,Tryz.ntmps210
 go_upto_region 1 with (fail)
 generalize hW1:(w.alloc _).alloc _=w1 at *;obtain⟨X1,XR,HB⟩:=Bo.en2 hW1;clear hW1;have xX1:=X1.cell
 go_wp2_with fail
 refine(nMay HM.out).mono ?_;rintro ee w2 ⟨rfl,B⟩;clear xX1;replace X1:=X1.b B;replace XR:=XR.b B;replace HB:=Hqb HB B;clear B;have xXR:=XR.cell;have zXR0:=XR.frozen;have xX1:=X1.cell;go_wp2;clear xXR zXR0 xX1;have SX:=StN.mk3 XR (.bool false) (.slice none 0 0) (.int .i64 0)
 exact bq (v:= .tuple #[.agg #[.bool false,.slice none 0 0,.int .i64 0],.bool false]) (by simp[results,Tryz.results210,go_sem,SX.box.cell]) rfl ⟨_,_,_,_,rfl,Wn.zero,by decide,(SX.below HB.out (by omega))⟩
theorem nexact_b{w:World}{D M E:Int}{s:Bool}(hm:decide (MayQ D s M E)=true)(hd:D=2):Calls Tryz.prog 210 #[VQ D s M E] w (PDB w 0 0 false):=by
 delta VQ
 have HM:=ie hm;clear hm;subst hd
 go_enter Tryz.func210,Tryz.ntmps210
 go_upto_region 1 with (fail)
 generalize hW1:(w.alloc _).alloc _=w1 at *;obtain⟨X1,XR,HB⟩:=Bo.en2 hW1;clear hW1;have xX1:=X1.cell
 go_wp2_with fail
 refine(nMay HM.out).mono ?_;rintro ee w2 ⟨rfl,B⟩;clear xX1;replace X1:=X1.b B;replace XR:=XR.b B;replace HB:=Hqb HB B;clear B;have xXR:=XR.cell;have zXR0:=XR.frozen;have xX1:=X1.cell;go_wp2;clear xXR zXR0 xX1;have SX:=StN.mk3 XR (.bool false) (.slice none 0 0) (.int .i64 0)
 exact bq (v:= .tuple #[.agg #[.bool false,.slice none 0 0,.int .i64 0],.bool false]) (by simp[results,Tryz.results210,go_sem,SX.box.cell]) rfl ⟨_,_,_,_,rfl,Wn.zero,by decide,(SX.below HB.out (by omega))⟩
theorem nexact_m{w:World}{D M E:Int}{s:Bool}{N F:Int}(hT:Tab w)(h0:0<=M)(hM:LQ M)(hm:decide (MayQ D s M E)=true)(hd:D≠2)(hN:(mk (sgi s M) E).1=N)(hE:(mk (sgi s M) E).2=F):Calls Tryz.prog 210 #[VQ D s M E] w (PDB w N F true):=by
 delta VQ
 have HM:=ie hm;have HN:=ie hN;have HE:=ie hE
 have e2:(D==2)=false:=by simpa using hd
 obtain⟨X,hX⟩:∃X:Nat,M/4294967296=X:=⟨(M/4294967296).toNat,by omega⟩
 obtain⟨Y,hY⟩:∃Y:Nat,M%4294967296=Y:=⟨(M%4294967296).toNat,by omega⟩
 have hx:X < 4294967296:=by omega
 have hy:Y < 4294967296:=by omega
 have ha:Y+4294967296*X=M.toNat:=by omega
 have HX:=ie hX
 have HY:Hid (IntKind.u32.wrap M=(Y:Int)):=ie (by
  show M%4294967296=(Y:Int)
  exact hY)
 have HX2:Hid (IntKind.u32.wrap (X:Int)=(X:Int)):=ie (IntWalk.u32_in _ (by omega))
 have HS:Hid (sg s M.toNat=sgi s M):=ie (sg_toNat h0)
 clear hm hN hE hX hY
 go_enter Tryz.func210,Tryz.ntmps210
 go_upto_region 1 with (fail)
 generalize hW1:(w.alloc _).alloc _=w1 at *;obtain⟨X1,XR,HB⟩:=Bo.en2 hW1;replace hT:=hT.below HB.out;clear hW1;have xX1:=X1.cell
 go_wp2_with fail
 refine(nMay HM.out).mono ?_;rintro ee w2 ⟨rfl,B⟩;clear xX1;replace X1:=X1.b B;replace XR:=XR.b B;replace hT:=hT.b B;replace HB:=Hqb HB B;clear B;have xX1:=X1.cell
 go_upto_region 3 with (fail)
 clear xX1;refine jk [0,1,2,3,4,5,6,7,8,9,10,11,12,13] [some 13,some 14,some 15,some 16,some 17,some 18,some 19,some 20,some 21,some 22,some 23,some 24,some 25,some 26,none,some 3] [[],[0],[],[2],[3],[],[5],[6],[7],[4,8],[1,9],[],[11],[10,12],[],[]] 16 2 [Jo.qp w.heap.size 1,Jo.qb s,Jo.qp w.heap.size 2,Jo.Fact.eq (.int .u64 M),Jo.Fact.eq (.int .u32 (Y:Int)),Jo.qp w.heap.size 2,Jo.Fact.eq (.int .u64 M),Jo.Fact.eq (.int .u64 (X:Int)),Jo.Fact.eq (.int .u32 (X:Int)),Jo.Fact.rd M.toNat 2,Jo.Fact.wn (sgi s M) 2,Jo.qp w.heap.size 3,Jo.qi E,Jo.Fact.dy N F 2,Jo.Fact.any,Jo.Fact.any] ?_ ?_
 ·refine jm ?_ ?_;rotate_left
  refine jm ?_ ?_
  ·rintro wj hJ _ rfl K hK;simp only[Jo.z]at hK|-;have xX11:=(X1.b hJ).a 1 (.bool s) rfl;go_simp;exact hK.out _ _ rfl (br _ _)
  refine jm ?_ ?_;rotate_left
  refine jm ?_ ?_
  ·rintro wj hJ _ rfl K hK;simp only[Jo.z]at hK|-;have xX12:=(X1.b hJ).a 2 (.int .u64 M) rfl;go_simp;exact hK.out _ _ rfl (br _ _)
  refine jm ?_ ?_
  ·rintro wj hJ _ rfl K hK;simp only[Jo.z]at hK|-;have hy2:=HY.out;go_simp;exact hK.out _ _ rfl (br _ _)
  refine jm ?_ ?_;rotate_left
  refine jm ?_ ?_
  ·rintro wj hJ _ rfl K hK;simp only[Jo.z]at hK|-;have xX12:=(X1.b hJ).a 2 (.int .u64 M) rfl;go_simp;exact hK.out _ _ rfl (br _ _)
  refine jm ?_ ?_
  ·rintro wj hJ _ rfl K hK;simp only[Jo.z]at hK|-;have hx2:=HX.out;go_simp;exact hK.out _ _ rfl (br _ _)
  refine jm ?_ ?_
  ·rintro wj hJ _ rfl K hK;simp only[Jo.z]at hK|-;have hx2:=HX2.out;go_simp;exact hK.out _ _ rfl (br _ _)
  refine jm ?_ ?_
  ·rintro wj hJ _ rfl _ rfl K hK;simp only[Jo.z]at hK|-;go_simp;exact hK.out _ _ ⟨_,2,2,rfl,lit_rdk _ hx hy ha,by decide⟩ (bel1 _ _)
  refine jm ?_ ?_
  ·rintro wj hJ _ rfl _ ⟨A3,n3,c3,rfl,p3,k3⟩ K hK;simp only[Jo.z]at hK|-;go_simp;refine(wMake s p3).mono ?_;rintro ee wk ⟨s4,A4,n4,c4,rfl,p4,k4,B⟩;exact hK.out _ _ ⟨s4,A4,n4,c4,rfl,HS.out▸p4,by omega⟩ B
  refine jm ?_ ?_;rotate_left
  refine jm ?_ ?_
  ·rintro wj hJ _ rfl K hK;simp only[Jo.z]at hK|-;have xX13:=(X1.b hJ).a 3 (.int .i64 E) rfl;go_simp;exact hK.out _ _ rfl (br _ _)
  refine jm ?_ ?_
  ·rintro wj hJ _ ⟨s4,A4,n4,c4,rfl,p4,k4⟩ _ rfl K hK;simp only[Jo.z]at hK|-;go_simp;exact Jo.d1 (dMake (hT.b hJ) p4.wr (by omega) HN.out HE.out) hK.out
  exact jo
  all_goals (rintro wj hJ;(repeat rintro _ rfl);intro K hK;simp only[Jo.z]at hK|-;go_simp;exact hK.out _ _ rfl (br _ _))
 rintro w3 hJ _ _ _ rfl _ _ _ rfl _ rfl _ _ _ rfl _ rfl _ rfl _ ⟨A3,n3,c3,rfl,_,_⟩ _ ⟨s4,A4,n4,c4,rfl,_,_⟩ _ _ _ rfl _ ⟨s5,A5,n5,c5,rfl,p5,k5⟩ -;simp only[Jo.z];replace XR:=XR.b hJ;replace HB:=Hqb HB hJ;have xXR:=XR.cell;have zXR0:=XR.frozen
 refine jn 14 fun K hK=>?_
 go_simp;refine hK.out _ _ ?_;clear hK K xXR zXR0;generalize hS:((w3.setCell _ _).setCell _ _).setCell _ _=w4 at *;have SX:=StN.of3 XR hS;replace p5:=p5.s SX;replace HB:=Hqs HB SX (by omega);replace XR:=SX.box;clear SX hS
 refine jn 15 fun K hK=>?_
 go_simp;refine hK.out _ _ ?_;clear hK K;refine jd ?_;go_wp2;exact bq (v:= .tuple #[.agg #[.bool s5,.slice A5 n5 c5,.int .i64 F],.bool true]) (by simp[results,Tryz.results210,go_sem,XR.cell]) rfl ⟨_,_,_,_,rfl,p5,k5,HB.out⟩
theorem nExact{w:World}{t:Bool}{D M E:Int}{s:Bool}{N F:Int}(hT:Tab w)(h0:0<=M)(hM:LQ M)(hq:exb D s M E=t)(hN:(exq D s M E).1=N)(hE:(exq D s M E).2=F):Calls Tryz.prog 210 #[VQ D s M E] w (PDB w N F t):=by
 delta VQ
 unfold exq at hN hE
 rw[hq]at hN hE
 unfold exb at hq
 cases hm:decide (MayQ D s M E)
 ·rw[hm,Bool.false_and]at hq;subst hq;subst hN;subst hE;exact nexact_a hm
 ·rw[hm,Bool.true_and]at hq
  by_cases hd:D=2
  ·have e:(D==2)=true:=by simpa using hd
   rw[e]at hq;subst hq;subst hN;subst hE;exact nexact_b hm hd
  ·have e:(D==2)=false:=by simpa using hd
   rw[e]at hq
   obtain rfl:true=t:=hq
   rw[if_pos rfl]at hN hE;exact nexact_m hT h0 hM hm hd hN hE
theorem fdiv_bd (N:Int){P:Int}(hP:0 < P):N.fdiv P*P<=N/\N < (N.fdiv P+1)*P:=by
 have h1:=Int.mul_fdiv_add_fmod N P;have h2:=Int.fmod_nonneg_of_pos N hP;have h3:=Int.fmod_lt_of_pos N hP;rw[Int.mul_comm]at h1;rw[Int.add_mul,Int.one_mul]
 omega
theorem nat_p2 (k:Nat):((2^k:Nat):Int)=2^k:=by simp
theorem flr_vl{p:Int × Int}(hp:Nf p):flr p.1 p.2*2^KK<=vl p/\vl p < (flr p.1 p.2+1)*2^KK:=by
 have b:=hp.bd
 unfold flr vl
 by_cases hE:0<=p.2
 ·rw[if_pos hE,nat_p2,Int.mul_assoc,<-Int.pow_add,show p.2.toNat+KK=(p.2+KK).toNat by omega,Int.add_mul,Int.mul_assoc,<-Int.pow_add,show p.2.toNat+KK=(p.2+KK).toNat by omega]
  have:=p2pos KK
  omega
 ·rw[if_neg hE,nat_p2];obtain⟨h1,h2⟩:=fdiv_bd p.1 (p2pos (-p.2).toNat)
  have hk:KK=(-p.2).toNat+(p.2+KK).toNat:=by rw[KK_eq];omega
  have hq:=p2pos (p.2+KK).toNat
  have e:(2:Int)^KK=2^(-p.2).toNat*2^(p.2+KK).toNat:=by rw[<-Int.pow_add,<-hk]
  rw[e,<-Int.mul_assoc,<-Int.mul_assoc];exact⟨Int.mul_le_mul_of_nonneg_right h1 (by omega),Int.mul_lt_mul_of_pos_right h2 hq⟩
theorem sgi_mul (s:Bool)(x y:Int):sgi s x*y=sgi s (x*y):=by
 cases s
 ·rfl
 ·exact Int.neg_mul _ _
theorem vp_vr{x:Int}(s:Bool)(h:0 < x):vr (sgi s x)=sgi s (vp x):=by
 rw[vr_sgi]
 congr 1
 unfold vr
 rw[if_neg (by omega)]
theorem exq_vl{D:Int}{s:Bool}{M E r:Int}(q:Fq D s M E r)(h1: -19342822337206103650074625 < r)(h2:r < 19342822337206103650074625):exb D s M E=true/\vl (exq D s M E)=vr r:=by
 have hb:exb D s M E=true:=by
  unfold exb
  rw[dt q.1,Bool.true_and]
  rcases q.cases with⟨rfl,rfl,rfl,rfl,h0⟩ | ⟨rfl,_⟩ | ⟨rfl,rfl,rfl,⟨rfl,h5⟩ | ⟨rfl,h5⟩⟩
  ·rfl
  ·rfl
  ·omega
  ·omega
 refine⟨hb,?_⟩
 unfold exq
 rw[if_pos hb];have hr:=q.2.2
 rcases q.1 with⟨rfl,rfl,rfl,rfl⟩ | ⟨rfl,g1,g2,g3⟩ | ⟨rfl,rfl,rfl⟩
 ·obtain rfl:0=r:=hr
  have e0:sgi false 0=0:=if_neg (by decide)
  rw[e0,mk_zero,vl_zero]
  rfl
 ·have hM:=q.2.1
  have hpl:plc 1 M E=M-9223372036854775808+1+(E+1048576)*9223372036854775808:=rfl
  rw[hpl]at hr
  have ha:(sgi s M).natAbs=M.toNat:=by
   cases s
   ·show M.natAbs=M.toNat;omega
   ·show (-M).natAbs=M.toNat;omega
  obtain⟨η,hη⟩:∃η:Nat,4194304=η:=⟨_,rfl⟩
  have hf:=mk_fit (z:=sgi s M) (e:=E) (h:=η) (by omega) (by omega) (by
   rw[ha]
   have:M.toNat < 2^64:=by omega
   have:=Nat.mul_lt_mul_of_pos_right this (Nat.pow_pos (n:=(E+(η:Int)).toNat) (show 0 < 2 by decide))
   rw[<-Nat.pow_add]at this;exact Nat.lt_of_lt_of_le this (Nat.pow_le_pow_right (by decide) (by omega)))
  rw[hf.2,<-hr,vp_vr s (by omega),vp_fin g1 hM (by omega),sgi_mul]
 ·exfalso
  have:r=sgi s TP:=hr.symm
  have:=TP_eq
  cases s
  ·have e:sgi false TP=TP:=if_neg (by decide)
   omega
  ·have e:sgi true TP= -TP:=if_pos rfl
   omega
theorem lo_full{m:Nat}{E:Int}(h1:9223372036854775808<=m)(h2:m < 18446744073709551616)(h3: -1048576<=E)(h4:E<=1048576):lo m E=(m:Int)-9223372036854775808+1+(E+1048576)*9223372036854775808:=by
 have hb:blen m=64:=blen_uniq (k:=63) (by omega) (by omega) (by omega)
 have hx:xp m E=E:=by unfold xp;rw[hb];omega
 have ht:tp m=m:=by
  rw[tp_small (by omega),hb,Nat.sub_self,Nat.pow_zero,Nat.mul_one]
 unfold lo
 rw[if_neg (by omega),hx,if_neg (by omega),if_neg (by omega),ht]
theorem back_odd{m k t:Nat}{E F:Int}(hm:m=k*2^t)(h1:9223372036854775808<=m)(h2:m < 18446744073709551616)(h3: -1048576<=E)(h4:E<=1048576)(hF:F=E+(t:Nat)):ext k F=true/\lo k F=lo m E:=by
 have hb:blen m=64:=blen_uniq (k:=63) (by omega) (by omega) (by omega)
 have hk:k≠0:=fun e=>by rw[e,Nat.zero_mul]at hm;omega
 have b1:=blen_mul hk t;rw[<-hm,hb]at b1;refine⟨?_,?_⟩
 ·have e0:(k==0)=false:=by simpa using hk
  unfold ext xp
  rw[e0,Bool.false_or,dt (by omega),dt (by omega),dt (by omega)]
  rfl
 ·rw[hm,lo_mul hk,hF]
theorem back_fin{s:Bool}{M E:Int}(up:Bool)(g1:9223372036854775808<=M)(hM:LQ M)(g2: -1048576<=E)(g3:E<=1048576){z:Int}(hz:z.natAbs=M.toNat)(hs:decide (z < 0)=s):rnd up (mk z E).1 (mk z E).2=sgi s (M-9223372036854775808+1+(E+1048576)*9223372036854775808):=by
 have h0:z≠0:=by omega
 have hv:=v2_pow_le (n:=z.natAbs) (by omega)
 have hv2:v2 z.natAbs < 64:=(Nat.pow_lt_pow_iff_right (a:=2) (by decide)).1 (show 2^v2 z.natAbs < 2^64 by omega)
 obtain⟨e1,e2,e3,e4,e5⟩:=mk_in (z:=z) (e:=E) h0 (by omega) (by omega)
 revert e1 e3 e4 e5
 generalize mk z E=p;obtain⟨N,F⟩:=p
 intro e1 e3 e4 e5
 simp only at e1 e3 e4 e5|-
 have ea:z.natAbs=N.natAbs*2^v2 z.natAbs:=by
  have:=congrArg Int.natAbs e5
  rwa [natAbs_mul_pow]at this
 obtain⟨x1,x2⟩:=back_odd ea (by omega) (by omega) g2 g3 e1
 rw[rnd_ext x1,x2,lo_full (by omega) (by omega) g2 g3,show decide (N < 0)=s by rw[<-hs];simp only[e3],show ((z.natAbs:Nat):Int)=M by omega]
theorem rnd_nought (up:Bool):rnd up 0 0=0:=by
 rw[rnd_ext rfl]
 rfl
theorem rnd_back{D:Int}{s:Bool}{M E r:Int}(up:Bool)(q:Fq D s M E r)(hx:exb D s M E=true):rnd up (exq D s M E).1 (exq D s M E).2=r:=by
 unfold exq
 rw[if_pos hx];have hr:=q.2.2
 rcases q.1 with⟨rfl,rfl,rfl,rfl⟩ | ⟨rfl,g1,g2,g3⟩ | ⟨rfl,rfl,rfl⟩
 ·obtain rfl:0=r:=hr
  have e0:sgi false 0=0:=if_neg (by decide)
  rw[e0,mk_zero];exact rnd_nought up
 ·have hM:=q.2.1
  have hpl:plc 1 M E=M-9223372036854775808+1+(E+1048576)*9223372036854775808:=rfl
  rw[hpl]at hr;rw[<-hr];refine back_fin up g1 hM g2 g3 ?_ ?_
  ·cases s
   ·rw[show sgi false M=M from if_neg (by decide)];omega
   ·rw[show sgi true M= -M from if_pos rfl];omega
  ·cases s
   ·rw[show sgi false M=M from if_neg (by decide)];exact df (by omega)
   ·rw[show sgi true M= -M from if_pos rfl];exact dt (by omega)
 ·exact absurd hx (by unfold exb;simp)
def opl (n:Int):Int:=sgi (decide (n < 0)) (lo n.natAbs 0)
theorem opl_zero:opl 0=0:=rfl
theorem opl_vr{n:Int}(h1: -9223372036854775808<=n)(h2:n<=9223372036854775807):vr (opl n)=n*2^KK:=by
 by_cases h0:n=0
 ·subst h0;rw[opl_zero,Int.zero_mul]
  rfl
 ·have q:=of_fq h0 h1 h2;have hs:=of_shl h0 h1 h2;have a3:=blen_mono_le (n:=n.natAbs) (k:=64) (by omega)
  have hr:_=opl n:=q.2.2
  have g:=q.plc (by decide)
  rcases g with⟨_,g1,g2,g3,g4,g5⟩ | ⟨g,_⟩
  ·rw[<-hr,vp_vr _ (by rw[g5];omega),g5,vp_fin g1 g2 (by omega),<-hs,Int.mul_assoc,<-Int.pow_add,show (64-(blen n.natAbs:Int)).toNat+(-(64-(blen n.natAbs:Int))+(KK:Int)).toNat=KK by rw[KK_eq];omega,<-sgi_mul]
   congr 1
   by_cases hn:n < 0
   ·rw[dt hn];show -(n.natAbs:Int)=n;omega
   ·rw[df hn];show (n.natAbs:Int)=n;omega
  ·exact absurd g (by decide)
theorem opl_cmp{a b:Int}(h1: -9223372036854775808<=a)(h2:a<=9223372036854775807)(k1: -9223372036854775808<=b)(k2:b<=9223372036854775807):cmpI (opl a) (opl b)=cmpI a b:=by
 rw[<-vr_cmp,opl_vr h1 h2,opl_vr k1 k2,cmpI_scale (p2pos KK)]
theorem sgi_not{n:Int}(h0:n≠0)(l:Int):sgi (decide (-n < 0)) l= -sgi (decide (n < 0)) l:=by
 by_cases hn:n < 0
 ·rw[dt hn,df (show ¬ -n < 0 by omega),show sgi false l=l from if_neg (by decide),show sgi true l= -l from if_pos rfl,Int.neg_neg]
 ·rw[df hn,dt (show -n < 0 by omega),show sgi false l=l from if_neg (by decide),show sgi true l= -l from if_pos rfl]
theorem opl_neg (n:Int):opl (-n)= -opl n:=by
 by_cases h0:n=0
 ·rw[h0,Int.neg_zero,opl_zero,Int.neg_zero]
 ·unfold opl
  rw[Int.natAbs_neg];exact sgi_not h0 _
def Dn (X r:Int):Prop:= -19342822337206103650074625<=r/\r<=19342822337206103650074624/\(-19342822337206103650074625 < r->vr r<=X)/\(r < 19342822337206103650074624->X < vr (r+1))
def Up (X r:Int):Prop:=Dn (-X) (-r)
theorem Dn.mono{X Y r t:Int}(h:Dn X r)(k:Dn Y t)(hXY:X<=Y):r<=t:=by
 obtain⟨h1,h2,h3,h4⟩:=h;obtain⟨k1,k2,k3,k4⟩:=k
 rcases Int.lt_or_le t r with q | q
 ·exfalso
  have a:=h3 (by omega);have b:=k4 (by omega)
  rcases Int.lt_or_eq_of_le (show t+1<=r by omega)with q | q
  ·have:=vr_lt q
   omega
  ·rw[q]at b
   omega
 ·exact q
theorem Dn.uniq{X r t:Int}(h:Dn X r)(k:Dn X t):r=t:=by
 have a:=h.mono k (Int.le_refl _);have b:=k.mono h (Int.le_refl _)
 omega
theorem Up.mono{X Y r t:Int}(h:Up X r)(k:Up Y t)(hXY:X<=Y):r<=t:=by
 have:=Dn.mono k h (by omega)
 omega
theorem Up.uniq{X r t:Int}(h:Up X r)(k:Up X t):r=t:=by
 have:=Dn.uniq h k
 omega
theorem dn_self{r:Int}(h1: -19342822337206103650074625 < r)(h2:r < 19342822337206103650074625):Dn (vr r) r:=⟨by omega,by omega,fun _=>Int.le_refl _,fun _=>vr_succ r⟩
theorem up_self{r:Int}(h1: -19342822337206103650074625 < r)(h2:r < 19342822337206103650074625):Up (vr r) r:=by
 unfold Up
 rw[<-vr_neg];exact dn_self (by omega) (by omega)
theorem m_lt (m:Nat){a b:Int}(ha:0<=a)(hb:0<=b)(h:(blen m:Int)+a<=b):(m:Int)*2^a.toNat < 2^b.toNat:=by
 have h1:=Nat.mul_lt_mul_of_pos_right (blen_lt m) (Nat.pow_pos (n:=a.toNat) (show 0 < 2 by decide))
 rw[<-Nat.pow_add]at h1
 have h2:=Nat.lt_of_lt_of_le h1 (Nat.pow_le_pow_right (show 0 < 2 by decide) (show blen m+a.toNat<=b.toNat by omega))
 exact_mod_cast h2
theorem m_ge{m:Nat}(h0:m≠0){a b:Int}(ha:0<=a)(hb:0<=b)(h:b<=(blen m:Int)-1+a):(2:Int)^b.toNat<=(m:Int)*2^a.toNat:=by
 have hl:blen m≠0:=fun e=>h0 (blen_eq_zero.1 e)
 have h1:=Nat.mul_le_mul_right (2^a.toNat) (blen_le h0);rw[<-Nat.pow_add]at h1
 have h2:=Nat.le_trans (Nat.pow_le_pow_right (show 0 < 2 by decide) (show b.toNat<=blen m-1+a.toNat by omega)) h1
 exact_mod_cast h2
theorem vp_one:vp 1=2^(63-1048576+(KK:Int)).toNat:=by
 have:=vp_fin (M:=9223372036854775808) (E:= -1048576) (by decide) (by decide) (by decide)
 rw[show (9223372036854775808:Int)-9223372036854775808+1+(-1048576+1048576)*9223372036854775808=1 by decide]at this
 rw[this,show (63-1048576+(KK:Int)).toNat=63+(-1048576+(KK:Int)).toNat by rw[KK_eq];omega,Int.pow_add]
 rfl
theorem vp_top:vp 19342822337206103650074624 < 2^(64+1048576+(KK:Int)).toNat:=by
 have:=vp_fin (M:=18446744073709551615) (E:=1048576) (by decide) (by decide) (by decide)
 rw[show (18446744073709551615:Int)-9223372036854775808+1+(1048576+1048576)*9223372036854775808=19342822337206103650074624 by decide]at this
 rw[this,show (64+1048576+(KK:Int)).toNat=64+(1048576+(KK:Int)).toNat by rw[KK_eq];omega,Int.pow_add]
 exact Int.mul_lt_mul_of_pos_right (by decide) (p2pos _)
theorem lo_dn{m:Nat}{E:Int}(h0:m≠0)(hE1: -4194304<=E)(hE2:E<=4194304)(ho:m%2=1):Dn ((m:Int)*2^(E+KK).toNat) (lo m E)/\Up ((m:Int)*2^(E+KK).toNat) (hi m E)/\0<=lo m E/\0<=hi m E:=by
 have hk:=KK_eq;obtain⟨b1,b2⟩:=lo_bd m E
 have hl:blen m≠0:=fun e=>h0 (blen_eq_zero.1 e)
 have hx:xp m E=E+(blen m:Nat)-64:=rfl
 have e0:(m==0)=false:=by simpa using h0
 have hpos:0 < (m:Int)*2^(E+KK).toNat:=Int.mul_pos (by omega) (p2pos _)
 by_cases c1:1048576 < xp m E
 ·have el:lo m E=19342822337206103650074624:=by
   unfold lo
   rw[if_neg h0,if_pos c1]
  have ex:ext m E=false:=by
   unfold ext
   rw[e0,df (show ¬xp m E<=1048576 by omega)]
   rfl
  have eh:hi m E=lo m E+1:=by
   unfold hi
   rw[ex,if_neg (by decide)]
  have g:=m_ge h0 (a:=E+KK) (b:=64+1048576+KK) (by omega) (by omega) (by omega);have ht:=vp_top
  have ev:vr 19342822337206103650074624=vp 19342822337206103650074624:=by
   unfold vr
   rw[if_neg (by decide)]
  rw[eh,el]
  refine⟨⟨by decide,by decide,fun _=>by omega,fun h=>absurd h (by decide)⟩,⟨by decide,by decide,fun h=>absurd h (by decide),fun _=>?_⟩,by decide,by decide⟩
  have en:vr (-(19342822337206103650074624+1)+1)= -vr 19342822337206103650074624:=vr_neg 19342822337206103650074624
  omega
 ·by_cases c2:xp m E < -1048576
  ·have el:lo m E=0:=by
    unfold lo
    rw[if_neg h0,if_neg c1,if_pos c2]
   have ex:ext m E=false:=by
    unfold ext
    rw[e0,df (show ¬ -1048576<=xp m E by omega)]
    simp
   have eh:hi m E=lo m E+1:=by
    unfold hi
    rw[ex,if_neg (by decide)]
   have g:=m_lt m (a:=E+KK) (b:=63-1048576+KK) (by omega) (by omega) (by omega);have h1:=vp_one
   have ev:vr 1=vp 1:=by
    unfold vr
    rw[if_neg (by decide)]
   have ez:vr 0=0:=rfl
   rw[eh,el]
   have en:vr (-(0+1))= -vr 1:=vr_neg 1
   refine⟨⟨by decide,by decide,fun _=>by omega,fun _=>?_⟩,⟨by decide,by decide,fun _=>by omega,fun _=>?_⟩,by decide,by decide⟩
   ·rw[show (0:Int)+1=1 from rfl]
    omega
   ·rw[show (-(0+1)+1:Int)=0 from rfl]
    omega
  ·obtain⟨v1,v2,v3,v4⟩:=lo_vr (m:=m) (E:=E) h0 (by omega) (by omega) (by omega) ho
   revert v1 v2 v3 v4
   have hh:hi m E=if ext m E=true then lo m E else lo m E+1:=rfl
   cases hx:ext m E
   ·rw[hx,if_neg (by decide)]at hh;rw[hh]
    revert b1 b2
    generalize lo m E=l
    intro b1 b2 v1 v2 v3 v4
    have v5:=v4 rfl;have n1:=vr_neg (l+1);have n2:=vr_neg l
    refine⟨⟨by omega,by omega,fun _=>v1,fun _=>v2⟩,⟨by omega,by omega,fun _=>by omega,fun _=>?_⟩,b1,by omega⟩
    rw[show -(l+1)+1= -l by omega]
    omega
   ·rw[hx,if_pos rfl]at hh;rw[hh]
    revert b1 b2
    generalize lo m E=l
    intro b1 b2 v1 v2 v3 v4
    have v5:=v3 rfl;have n1:=vr_neg l;have n2:=vr_succ (-l)
    refine⟨⟨by omega,by omega,fun _=>v1,fun _=>v2⟩,⟨by omega,by omega,fun _=>by omega,fun _=>by omega⟩,b1,b1⟩
theorem up_of_dn{X r:Int}(h:Dn X r):Up (-X) (-r):=by
 unfold Up
 rw[Int.neg_neg,Int.neg_neg];exact h
theorem dn_of_up{X r:Int}(h:Up X r):Dn (-X) (-r):=h
theorem rnd_spec{P:Int × Int}(hP:Nf P):Dn (vl P) (rnd false P.1 P.2)/\Up (vl P) (rnd true P.1 P.2):=by
 rcases hP.cases with e | ⟨h0,ho,e1,e2⟩
 ·subst e;rw[rnd_nought,rnd_nought,vl_zero];have h:=dn_self (r:=0) (by decide) (by decide);have k:=up_self (r:=0) (by decide) (by decide)
  rw[show vr 0=0 from rfl]at h k
  exact⟨h,k⟩
 ·obtain⟨d,u,_,_⟩:=lo_dn (m:=P.1.natAbs) (E:=P.2) (by omega) e1 e2 ho
  have hvl:vl P=P.1*2^(P.2+KK).toNat:=rfl
  rcases Int.lt_or_lt_of_ne h0 with hn | hp
  ·have hs:true=decide (P.1 < 0):=(dt hn).symm
   have r1:=rnd_diff (E:=P.2) hs;have r2:=rnd_same (up:=true) (E:=P.2) hs rfl
   rw[show (!true)=false from rfl]at r1
   have ev:vl P= -((P.1.natAbs:Int)*2^(P.2+KK).toNat):=by
    rw[hvl,<-Int.neg_mul]
    congr 1
    omega
   have s1:∀x,sgi true x= -x:=fun x=>if_pos rfl
   rw[r1,r2,ev,s1,s1];exact⟨dn_of_up u,up_of_dn d⟩
  ·have hs:false=decide (P.1 < 0):=(df (by omega)).symm
   have r1:=rnd_same (up:=false) (E:=P.2) hs rfl;have r2:=rnd_diff (E:=P.2) hs
   rw[show (!false)=true from rfl]at r2
   have ev:vl P=(P.1.natAbs:Int)*2^(P.2+KK).toNat:=by
    rw[hvl]
    congr 1
    omega
   have s1:∀x,sgi false x=x:=fun x=>if_neg (by decide)
   rw[r1,r2,ev,s1,s1];exact⟨d,u⟩
theorem rnd_monoA{P Q:Int × Int}(hP:Nf P)(hQ:Nf Q)(h:vl P<=vl Q)(up:Bool):rnd up P.1 P.2<=rnd up Q.1 Q.2:=by
 cases up
 ·exact(rnd_spec hP).1.mono (rnd_spec hQ).1 h
 ·exact(rnd_spec hP).2.mono (rnd_spec hQ).2 h
theorem rnd_turn{P:Int × Int}(hP:Nf P)(up:Bool):rnd (!up) (-P.1) P.2= -rnd up P.1 P.2:=by
 have hn:Nf (ng P):=ng_nf hP
 have hv:=vl_ng P;obtain⟨a,b⟩:=rnd_spec hP;obtain⟨c,d⟩:=rnd_spec hn;rw[hv]at c d
 cases up
 ·have:=d.uniq (up_of_dn a)
  exact this
 ·have:=c.uniq (dn_of_up b)
  exact this
def ep (r:Int):Int × Int:=if r=0 then (0,0)else mk (sgi (decide (r < 0)) (((r.natAbs:Int)-1)%9223372036854775808+9223372036854775808)) (((r.natAbs:Int)-1) /9223372036854775808-1048576)
theorem exq_ep{D:Int}{s:Bool}{M E r:Int}(q:Fq D s M E r)(hx:exb D s M E=true):exq D s M E=ep r:=by
 unfold exq ep
 rw[if_pos hx]
 rcases q.cases with⟨rfl,rfl,rfl,rfl,h0⟩ | ⟨rfl,h1,h2,h3,h4,⟨rfl,h5⟩ | ⟨rfl,h5⟩⟩ | ⟨rfl,_⟩
 ·rw[if_pos h0,show sgi false 0=0 from if_neg (by decide)]
  exact mk_zero 0
 ·rw[if_neg (by omega),df (show ¬r < 0 by omega)]
  congr 2
  ·omega
  ·omega
 ·rw[if_neg (by omega),dt (show r < 0 by omega)]
  congr 2
  ·omega
  ·omega
 ·exact absurd hx (by unfold exb;simp)
theorem ep_nf (r:Int):Nf (ep r):=by
 unfold ep
 split
 ·exact mk_zero 0
 ·exact mk_nf _ _
theorem fq_of{r:Int}(h1: -19342822337206103650074625 < r)(h2:r < 19342822337206103650074625):∃D s M E,Fq D s M E r:=by
 by_cases h0:r=0
 ·exact⟨0,false,0,0,h0▸Fq.nought⟩
 ·by_cases hn:r < 0
  ·refine⟨1,true,((r.natAbs:Int)-1)%9223372036854775808+9223372036854775808,((r.natAbs:Int)-1) /9223372036854775808-1048576,Fq.fin (by omega) (by omega) (by omega) (by omega) ?_⟩
   rw[show ∀x,sgi true x= -x from fun x=>if_pos rfl]
   omega
  ·refine⟨1,false,((r.natAbs:Int)-1)%9223372036854775808+9223372036854775808,((r.natAbs:Int)-1) /9223372036854775808-1048576,Fq.fin (by omega) (by omega) (by omega) (by omega) ?_⟩
   rw[show ∀x,sgi false x=x from fun x=>if_neg (by decide)]
   omega
theorem ep_vl{r:Int}(h1: -19342822337206103650074625 < r)(h2:r < 19342822337206103650074625):vl (ep r)=vr r:=by
 obtain⟨D,s,M,E,q⟩:=fq_of h1 h2;obtain⟨a,b⟩:=exq_vl q h1 h2;rw[<-exq_ep q a,b]
theorem ep_neg (r:Int):ep (-r)=ng (ep r):=by
 unfold ep
 by_cases h0:r=0
 ·rw[if_pos (by omega),if_pos h0]
  rfl
 ·rw[if_neg (by omega),if_neg h0,Int.natAbs_neg,sgi_not h0];generalize sgi (decide (r < 0)) _=z;exact mk_neg z _
theorem ep_fit (r:Int)(h1: -19342822337206103650074625 < r)(h2:r < 19342822337206103650074625){h:Nat}(hh:1048700<=h)(hh2:h<=4194304):Fit h (ep r):=by
 unfold ep
 by_cases h0:r=0
 ·rw[if_pos h0];exact Fit.zero h
 ·rw[if_neg h0];obtain⟨M,hM⟩:∃M,((r.natAbs:Int)-1)%9223372036854775808+9223372036854775808=M:=⟨_,rfl⟩;obtain⟨E,hE⟩:∃E,((r.natAbs:Int)-1) /9223372036854775808-1048576=E:=⟨_,rfl⟩;rw[hM,hE];refine(mk_fit (z:=sgi (decide (r < 0)) M) (e:=E) (h:=h) hh2 (by omega) ?_).1
  have ha:(sgi (decide (r < 0)) M).natAbs=M.toNat:=by
   cases decide (r < 0)
   ·rw[show sgi false M=M from if_neg (by decide)];omega
   ·rw[show sgi true M= -M from if_pos rfl];omega
  rw[ha]
  have:M.toNat < 2^64:=by omega
  have:=Nat.mul_lt_mul_of_pos_right this (Nat.pow_pos (n:=(E+(h:Int)).toNat) (show 0 < 2 by decide))
  rw[<-Nat.pow_add]at this;exact Nat.lt_of_lt_of_le this (Nat.pow_le_pow_right (by decide) (by omega))
def infp (x:Int):Bool:=x==TP || x== -TP
def addp (up:Bool)(x y:Int):Int:=
 if infp x=true then (if infp y=true/\x≠y then sgi (!up) TP else x)else if infp y=true then y else rnd up (pl (ep x) (ep y)).1 (pl (ep x) (ep y)).2
def mulp (up:Bool)(x y:Int):Int:=
 if x=0\/y=0 then 0 else if infp x=true\/infp y=true then sgi (decide (x < 0) !=decide (y < 0)) TP else rnd up (ml (ep x) (ep y)).1 (ml (ep x) (ep y)).2
theorem infp_false{x:Int}(h1: -19342822337206103650074625<=x)(h2:x<=19342822337206103650074625)(h:infp x=false): -19342822337206103650074625 < x/\x < 19342822337206103650074625:=by
 unfold infp at h
 simp[TP_eq]at h
 omega
theorem infp_true{x:Int}(h:infp x=true):x=19342822337206103650074625\/x= -19342822337206103650074625:=by
 unfold infp at h
 simp[TP_eq]at h
 omega
theorem sum_spec{x y:Int}(x1: -19342822337206103650074625 < x)(x2:x < 19342822337206103650074625)(y1: -19342822337206103650074625 < y)(y2:y < 19342822337206103650074625):Nf (pl (ep x) (ep y))/\vl (pl (ep x) (ep y))=vr x+vr y:=by
 obtain⟨η,hη⟩:∃η:Nat,η=2000000:=⟨_,rfl⟩;have f:=ep_fit x x1 x2 (h:=η) (by omega) (by omega);have g:=ep_fit y y1 y2 (h:=η) (by omega) (by omega);obtain⟨a,b⟩:=pl_fit (by omega) f g;exact⟨a.nf,by rw[b,ep_vl x1 x2,ep_vl y1 y2]⟩
theorem pro_spec{x y:Int}(x1: -19342822337206103650074625 < x)(x2:x < 19342822337206103650074625)(y1: -19342822337206103650074625 < y)(y2:y < 19342822337206103650074625):Nf (ml (ep x) (ep y))/\vl (ml (ep x) (ep y))*2^KK=vr x*vr y:=by
 obtain⟨η,hη⟩:∃η:Nat,η=2000000:=⟨_,rfl⟩;have f:=ep_fit x x1 x2 (h:=η) (by omega) (by omega);have g:=ep_fit y y1 y2 (h:=η) (by omega) (by omega);obtain⟨a,b⟩:=ml_fit (by omega) f g;exact⟨a.nf,by rw[b,ep_vl x1 x2,ep_vl y1 y2]⟩
theorem rnd_bd{P:Int × Int}(hP:Nf P)(up:Bool): -19342822337206103650074625<=rnd up P.1 P.2/\rnd up P.1 P.2<=19342822337206103650074625:=by
 obtain⟨a,b⟩:=rnd_spec hP
 cases up
 ·have:=a.1;have:=a.2.1;omega
 ·have:=b.1;have:=b.2.1;omega
theorem ff:¬(false=true):=Bool.false_ne_true
theorem addp_ff{x y:Int}(up:Bool)(hx:infp x=false)(hy:infp y=false):addp up x y=rnd up (pl (ep x) (ep y)).1 (pl (ep x) (ep y)).2:=by
 unfold addp
 rw[hx,hy,if_neg ff,if_neg ff]
theorem addp_ft{x y:Int}(up:Bool)(hx:infp x=false)(hy:infp y=true):addp up x y=y:=by
 unfold addp
 rw[hx,hy,if_neg ff,if_pos rfl]
theorem addp_tf{x y:Int}(up:Bool)(hx:infp x=true)(hy:infp y=false):addp up x y=x:=by
 unfold addp
 rw[hx,hy,if_pos rfl,if_neg (fun c=>ff c.1)]
theorem addp_same{x y:Int}(up:Bool)(hx:infp x=true)(h:x=y):addp up x y=x:=by
 unfold addp
 rw[hx,if_pos rfl,if_neg (fun c=>c.2 h)]
theorem addp_diff{x y:Int}(up:Bool)(hx:infp x=true)(hy:infp y=true)(h:x≠y):addp up x y=sgi (!up) TP:=by
 unfold addp
 rw[hx,hy,if_pos rfl,if_pos ⟨rfl,h⟩]
theorem addp_comm{x y:Int}(up:Bool):addp up x y=addp up y x:=by
 cases hx:infp x <;> cases hy:infp y
 ·rw[addp_ff up hx hy,addp_ff up hy hx,pl_comm (ep_nf x) (ep_nf y)]
 ·rw[addp_ft up hx hy,addp_tf up hy hx]
 ·rw[addp_tf up hx hy,addp_ft up hy hx]
 ·by_cases h:x=y
  ·rw[h]
  ·rw[addp_diff up hx hy h,addp_diff up hy hx (fun e=>h e.symm)]
theorem mulp_zero{x y:Int}(up:Bool)(h:x=0\/y=0):mulp up x y=0:=by
 unfold mulp
 rw[if_pos h]
theorem mulp_inf{x y:Int}(up:Bool)(h:¬(x=0\/y=0))(hi:infp x=true\/infp y=true):mulp up x y=sgi (decide (x < 0) !=decide (y < 0)) TP:=by
 unfold mulp
 rw[if_neg h,if_pos hi]
theorem mulp_fin{x y:Int}(up:Bool)(h:¬(x=0\/y=0))(hi:¬(infp x=true\/infp y=true)):mulp up x y=rnd up (ml (ep x) (ep y)).1 (ml (ep x) (ep y)).2:=by
 unfold mulp
 rw[if_neg h,if_neg hi]
theorem mulp_comm{x y:Int}(up:Bool):mulp up x y=mulp up y x:=by
 by_cases h0:x=0\/y=0
 ·rw[mulp_zero up h0,mulp_zero up h0.symm]
 ·have h0':¬(y=0\/x=0):=fun c=>h0 c.symm
  by_cases h1:infp x=true\/infp y=true
  ·rw[mulp_inf up h0 h1,mulp_inf up h0' h1.symm]
   cases decide (x < 0) <;> cases decide (y < 0) <;> rfl
  ·rw[mulp_fin up h0 h1,mulp_fin up h0' (fun c=>h1 c.symm),ml_comm (ep x) (ep y)]
theorem infp_neg (x:Int):infp (-x)=infp x:=by
 unfold infp
 rw[Bool.eq_iff_iff]
 simp
 omega
theorem pl_ng{P Q:Int × Int}(hP:Nf P)(hQ:Nf Q):pl (ng P) (ng Q)=ng (pl P Q):=by
 unfold pl ng
 simp only
 by_cases h1:P.1=0
 ·rw[if_pos (by omega),if_pos h1]
 ·rw[if_neg (by omega),if_neg h1]
  by_cases h2:Q.1=0
  ·rw[if_pos (by omega),if_pos h2]
  ·rw[if_neg (by omega),if_neg h2,Int.neg_mul,Int.neg_mul,<-Int.neg_add];exact mk_neg _ _
theorem sgi_neg (s:Bool)(x:Int):sgi (!s) x= -sgi s x:=by
 cases s
 ·rw[show (!false)=true from rfl,show sgi true x= -x from if_pos rfl,show sgi false x=x from if_neg (by decide)]
 ·rw[show (!true)=false from rfl,show sgi true x= -x from if_pos rfl,show sgi false x=x from if_neg (by decide),Int.neg_neg]
theorem addp_neg{x y:Int}(up:Bool):addp (!up) (-x) (-y)= -addp up x y:=by
 have nx_:=infp_neg x;have ny_:=infp_neg y
 cases hx:infp x <;> cases hy:infp y <;> rw[hx]at nx_ <;> rw[hy]at ny_
 ·rw[addp_ff _ nx_ ny_,addp_ff up hx hy,ep_neg,ep_neg,pl_ng (ep_nf x) (ep_nf y)];exact rnd_turn (pl_nf (ep_nf x) (ep_nf y)) up
 ·rw[addp_ft _ nx_ ny_,addp_ft up hx hy]
 ·rw[addp_tf _ nx_ ny_,addp_tf up hx hy]
 ·by_cases h:x=y
  ·rw[addp_same _ nx_ (by rw[h]),addp_same up hx h]
  ·rw[addp_diff _ nx_ ny_ (fun e=>h (by omega)),addp_diff up hx hy h]
   exact sgi_neg _ _
theorem neg_sign{x:Int}(h:x≠0):decide (-x < 0)=!decide (x < 0):=by
 by_cases c:x < 0
 ·rw[dt c,df (by omega)]
  rfl
 ·rw[df c,dt (by omega)]
  rfl
theorem addp_bd{x y:Int}(up:Bool)(x1: -19342822337206103650074625<=x)(x2:x<=19342822337206103650074625)(y1: -19342822337206103650074625<=y)(y2:y<=19342822337206103650074625): -19342822337206103650074625<=addp up x y/\addp up x y<=19342822337206103650074625:=by
 have htp:=TP_eq
 cases hx:infp x <;> cases hy:infp y
 ·rw[addp_ff up hx hy];exact rnd_bd (pl_nf (ep_nf x) (ep_nf y)) up
 ·rw[addp_ft up hx hy];exact⟨y1,y2⟩
 ·rw[addp_tf up hx hy];exact⟨x1,x2⟩
 ·by_cases h:x=y
  ·rw[addp_same up hx h];exact⟨x1,x2⟩
  ·rw[addp_diff up hx hy h]
   cases up
   ·rw[show sgi (!false) TP= -TP from if_pos rfl];omega
   ·rw[show sgi (!true) TP=TP from if_neg (by decide)];omega
theorem addp_mono{x y z:Int}(up:Bool)(x1: -19342822337206103650074625<=x)(x2:x<=19342822337206103650074625)(y1: -19342822337206103650074625<=y)(y2:y<=19342822337206103650074625)(z1: -19342822337206103650074625<=z)(z2:z<=19342822337206103650074625)(h:x<=y):addp up x z<=addp up y z:=by
 have htp:=TP_eq;obtain⟨a1,a2⟩:=addp_bd up x1 x2 z1 z2;obtain⟨b1,b2⟩:=addp_bd up y1 y2 z1 z2
 cases hz:infp z
 ·cases hx:infp x
  ·cases hy:infp y
   ·obtain⟨x3,x4⟩:=infp_false x1 x2 hx;obtain⟨y3,y4⟩:=infp_false y1 y2 hy;obtain⟨z3,z4⟩:=infp_false z1 z2 hz;obtain⟨n1,v1⟩:=sum_spec x3 x4 z3 z4;obtain⟨n2,v2⟩:=sum_spec y3 y4 z3 z4
    have hv:vr x<=vr y:=by
     rcases Int.lt_or_eq_of_le h with q | q
     ·exact Int.le_of_lt (vr_lt q)
     ·rw[q];exact Int.le_refl _
    rw[addp_ff up hx hz,addp_ff up hy hz];exact rnd_monoA n1 n2 (by rw[v1,v2];omega) up
   ·have e:addp up y z=y:=addp_tf up hy hz
    rcases infp_true hy with q | q
    ·omega
    ·have:x=y:=by omega
     rw[this];exact Int.le_refl _
  ·have e:addp up x z=x:=addp_tf up hx hz
   rcases infp_true hx with q | q
   ·have:x=y:=by omega
    rw[this];exact Int.le_refl _
   ·omega
 ·have e:∀w,infp w=false->addp up w z=z:=fun w hw=>addp_ft up hw hz
  have e2:∀w,infp w=true->w≠z->addp up w z=sgi (!up) TP:=fun w hw hn=>addp_diff up hw hz hn
  have e3:addp up z z=z:=addp_same up hz rfl
  have ts:sgi (!up) TP=TP\/sgi (!up) TP= -TP:=by
   cases up
   ·exact .inr (if_pos rfl)
   ·exact .inl (if_neg (by decide))
  have hz2:=infp_true hz
  by_cases hxz:x=z
  ·rw[hxz,e3]
   by_cases hyz:y=z
   ·rw[hyz,e3];exact Int.le_refl _
   ·cases hy:infp y
    ·rw[e y hy];exact Int.le_refl _
    ·have hy2:=infp_true hy;rw[e2 y hy hyz]
     omega
  ·by_cases hyz:y=z
   ·rw[hyz,e3]
    cases hx:infp x
    ·rw[e x hx];exact Int.le_refl _
    ·have hx2:=infp_true hx;rw[e2 x hx hxz]
     omega
   ·cases hx:infp x
    ·have hx2:=infp_false x1 x2 hx;rw[e x hx]
     cases hy:infp y
     ·rw[e y hy];exact Int.le_refl _
     ·have hy2:=infp_true hy;rw[e2 y hy hyz]
      omega
    ·have hx2:=infp_true hx
     cases hy:infp y
     ·have hy2:=infp_false y1 y2 hy;rw[e y hy,e2 x hx hxz]
      omega
     ·rw[e2 x hx hxz,e2 y hy hyz];exact Int.le_refl _
theorem vr_pos{x:Int}(h:0 < x):0 < vr x:=by
 have:=vr_lt h
 rwa [show vr 0=0 from rfl]at this
theorem vr_nn{x:Int}(h:0<=x):0<=vr x:=by
 rcases Int.lt_or_eq_of_le h with q | q
 ·exact Int.le_of_lt (vr_pos q)
 ·rw[<-q];decide
theorem vr_le{x y:Int}(h:x<=y):vr x<=vr y:=by
 rcases Int.lt_or_eq_of_le h with q | q
 ·exact Int.le_of_lt (vr_lt q)
 ·rw[q];exact Int.le_refl _
theorem sgT (s:Bool):sgi s TP=TP\/sgi s TP= -TP:=by
 cases s
 ·exact .inl (if_neg (by decide))
 ·exact .inr (if_pos rfl)
theorem mulp_bd{x y:Int}(up:Bool): -19342822337206103650074625<=mulp up x y/\mulp up x y<=19342822337206103650074625:=by
 have htp:=TP_eq
 by_cases h0:x=0\/y=0
 ·rw[mulp_zero up h0];omega
 ·by_cases h1:infp x=true\/infp y=true
  ·rw[mulp_inf up h0 h1]
   have:=sgT (decide (x < 0) !=decide (y < 0))
   omega
  ·rw[mulp_fin up h0 h1];exact rnd_bd (mk_nf _ _) up
theorem rnd_ep{r:Int}(up:Bool)(h1: -19342822337206103650074625 < r)(h2:r < 19342822337206103650074625):rnd up (ep r).1 (ep r).2=r:=by
 obtain⟨D,s,M,E,q⟩:=fq_of h1 h2;obtain⟨a,_⟩:=exq_vl q h1 h2;rw[<-exq_ep q a];exact rnd_back up q a
theorem ep_zero:ep 0=(0,0):=if_pos rfl
theorem infp_zero:infp 0=false:=by decide
theorem addp_zero{x:Int}(up:Bool)(x1: -19342822337206103650074625<=x)(x2:x<=19342822337206103650074625):addp up x 0=x:=by
 cases hx:infp x
 ·obtain⟨x3,x4⟩:=infp_false x1 x2 hx;rw[addp_ff up hx infp_zero,ep_zero]
  have:pl (ep x) (0,0)=ep x:=by
   unfold pl
   by_cases h:(ep x).1=0
   ·rw[if_pos h];exact((ep_nf x).zero h).symm
   ·rw[if_neg h,if_pos rfl]
  rw[this];exact rnd_ep up x3 x4
 ·exact addp_tf up hx infp_zero
theorem rnd_exact{P:Int × Int}(hP:Nf P){r:Int}(up:Bool)(h1: -19342822337206103650074625 < r)(h2:r < 19342822337206103650074625)(h:vl P=vr r):rnd up P.1 P.2=r:=by
 obtain⟨a,b⟩:=rnd_spec hP;rw[h]at a b
 cases up
 ·exact a.uniq (dn_self h1 h2)
 ·exact b.uniq (up_self h1 h2)
theorem opl_pos{n:Int}(h:0 < n)(h1:n<=9223372036854775807):0 < opl n/\opl n < 19342822337206103650074625:=by
 have e:opl n=lo n.natAbs 0:=by
  unfold opl
  rw[df (show ¬n < 0 by omega)]
  exact if_neg (by decide)
 have hc:=opl_cmp (a:=n) (b:=0) (by omega) h1 (by decide) (by decide);rw[opl_zero,cmpI_gt h]at hc
 have:=(lo_bd n.natAbs 0).2
 rw[<-e]at this;refine⟨?_,by omega⟩
 rcases cmpI_tri (opl n) 0 with⟨a,b⟩ | ⟨a,b⟩ | ⟨a,b⟩
 ·rw[b]at hc;exact absurd hc (by decide)
 ·rw[b]at hc;exact absurd hc (by decide)
 ·exact a
theorem infp_fin{x:Int}(h1: -19342822337206103650074625 < x)(h2:x < 19342822337206103650074625):infp x=false:=by
 cases h:infp x
 ·rfl
 ·have:=infp_true h;omega
theorem vp_shift{r:Int}(h:0 < r):vp (r+9223372036854775808)=vp r*2:=by
 unfold vp
 rw[if_neg (by omega),if_neg (by omega)]
 have e1:(r+9223372036854775808-1)%9223372036854775808=(r-1)%9223372036854775808:=by omega
 have e2:((r+9223372036854775808-1) /9223372036854775808-1048576+(KK:Int)).toNat=((r-1) /9223372036854775808-1048576+(KK:Int)).toNat+1:=by
  rw[KK_eq]
  omega
 rw[e1,e2,Int.pow_succ,Int.mul_assoc]
theorem vr_shift{r:Int}(h:0 < r):vr (r+9223372036854775808)=vr r*2:=by
 unfold vr
 rw[if_neg (by omega),if_neg (by omega),vp_shift h]
theorem tight{P:Int × Int}(hP:Nf P)(h1:vr (-19342822337206103650074624)<=vl P)(h2:vl P<=vr 19342822337206103650074624):
  ∃r r',rnd false P.1 P.2=r/\rnd true P.1 P.2=r'/\ -19342822337206103650074625 < r/\r < 19342822337206103650074625/\ -19342822337206103650074625 < r'/\r' < 19342822337206103650074625/\((r'=r/\vr r=vl P)\/(r'=r+1/\vr r < vl P/\vl P < vr r')):=by
 obtain⟨a,b⟩:=rnd_spec hP;refine⟨_,_,rfl,rfl,?_⟩
 revert a b
 generalize rnd false P.1 P.2=r;generalize rnd true P.1 P.2=r'
 intro a b
 have lo1:=(dn_self (r:= -19342822337206103650074624) (by decide) (by decide)).mono a h1;have hi1:=b.mono (up_self (r:=19342822337206103650074624) (by decide) (by decide)) h2;obtain⟨a1,a2,a3,a4⟩:=a;obtain⟨b1,b2,b3,b4⟩:=b;have c1:=a3 (by omega);have n1:=vr_neg r'
 have c2:vl P<=vr r':=by
  have:=b3 (by omega)
  omega
 have hrr:r<=r':=by
  rcases Int.lt_or_le r' r with q | q
  ·have:=vr_lt q;omega
  ·exact q
 by_cases e:vr r=vl P
 ·have hu:Up (vl P) r:=e▸up_self (by omega) (by omega)
  have:=hu.uniq (show Up (vl P) r' from ⟨b1,b2,b3,b4⟩)
  subst this;exact⟨by omega,by omega,by omega,by omega,.inl ⟨rfl,e⟩⟩
 ·have hlt:vr r < vl P:=by omega
  have hne:r≠r':=fun c=>by rw[<-c]at c2;omega
  have c3:=a4 (by omega);have n2:=vr_neg (r' - 1)
  have c4:r'<=r+1:=by
   rcases Int.lt_or_le (r+1) r' with q | q
   ·have:=b4 (by omega)
    rw[show -r'+1= -(r' - 1) by omega]at this
    have:=vr_le (show r+1<=r' - 1 by omega)
    omega
   ·exact q
  obtain rfl:r'=r+1:=by omega
  exact⟨by omega,by omega,by omega,by omega,.inr ⟨rfl,hlt,c3⟩⟩
theorem vr_gap{M E:Int}(h1:9223372036854775808<=M)(h2:LQ M)(h3: -1048576 < E):
  vr (M-9223372036854775808+1+(E+1048576)*9223372036854775808)=M*2^(E+KK).toNat/\vr (M-9223372036854775808+1+(E+1048576)*9223372036854775808+1)=M*2^(E+KK).toNat+2^(E+KK).toNat/\vr (M-9223372036854775808+1+(E+1048576)*9223372036854775808-1)<=M*2^(E+KK).toNat-2^(E-1+KK).toNat:=by
 have hk:=KK_eq
 have pv:∀{q:Int},0 < q->vr q=vp q:=fun {q} hq=>by
  unfold vr
  rw[if_neg (by omega)]
 have ep2:(2:Int)^(E+KK).toNat=2^(E-1+KK).toNat*2:=by
  rw[<-Int.pow_succ]
  congr 1
  omega
 have hpp:=p2pos (E-1+KK).toNat;refine⟨?_,?_,?_⟩
 ·rw[pv (by omega),vp_fin h1 h2 (by omega)]
 ·rw[pv (by omega)]
  by_cases hc:M=18446744073709551615
  ·have:=vp_fin (M:=9223372036854775808) (E:=E+1) (by decide) (by decide) (by omega)
   rw[show M-9223372036854775808+1+(E+1048576)*9223372036854775808+1=(9223372036854775808:Int)-9223372036854775808+1+(E+1+1048576)*9223372036854775808 by omega,this,show (E+1+(KK:Int)).toNat=(E+KK).toNat+1 by omega,Int.pow_succ,hc]
   omega
  ·have:=vp_fin (M:=M+1) (E:=E) (by omega) (by omega) (by omega)
   rw[show M-9223372036854775808+1+(E+1048576)*9223372036854775808+1=M+1-9223372036854775808+1+(E+1048576)*9223372036854775808 by omega,this,Int.add_mul,Int.one_mul]
 ·by_cases hc:M=9223372036854775808
  ·have:=vp_fin (M:=18446744073709551615) (E:=E-1) (by decide) (by decide) (by omega)
   rw[show M-9223372036854775808+1+(E+1048576)*9223372036854775808-1=(18446744073709551615:Int)-9223372036854775808+1+(E-1+1048576)*9223372036854775808 by omega,pv (by omega),this,hc,ep2]
   omega
  ·have:=vp_fin (M:=M-1) (E:=E) (by omega) (by omega) (by omega)
   rw[show M-9223372036854775808+1+(E+1048576)*9223372036854775808-1=M-1-9223372036854775808+1+(E+1048576)*9223372036854775808 by omega,pv (by omega),this,Int.sub_mul,Int.one_mul,ep2]
   omega
theorem addp_spec{x y:Int}(up:Bool)(x1: -19342822337206103650074625 < x)(x2:x < 19342822337206103650074625)(y1: -19342822337206103650074625 < y)(y2:y < 19342822337206103650074625):Dn (vr x+vr y) (addp false x y)/\Up (vr x+vr y) (addp true x y):=by
 obtain⟨n,v⟩:=sum_spec x1 x2 y1 y2;obtain⟨a,b⟩:=rnd_spec n;rw[v]at a b;rw[addp_ff _ (infp_fin x1 x2) (infp_fin y1 y2),addp_ff _ (infp_fin x1 x2) (infp_fin y1 y2)];exact⟨a,b⟩
theorem wsg_f (x:Int):sgi false x=x:=if_neg (by decide)
theorem wsg_t (x:Int):sgi true x= -x:=if_pos rfl
theorem Dn.sep{A B a b r:Int}(h:Dn A r)(hA1:a < A)(hA2:A < b)(hB1:a < B)(hB2:B < b)(hs:∀s,¬(a < vr s/\vr s < b)):Dn B r:=by
 obtain⟨h1,h2,h3,h4⟩:=h
 refine⟨h1,h2,fun k=>?_,fun k=>?_⟩
 ·have:=h3 k
  have:=hs r
  omega
 ·have:=h4 k
  have:=hs (r+1)
  omega
theorem sep_rnd{P Q:Int × Int}(up:Bool)(hP:Nf P)(hQ:Nf Q){a b:Int}(hA1:a < vl P)(hA2:vl P < b)(hB1:a < vl Q)(hB2:vl Q < b)(hs:∀s,¬(a < vr s/\vr s < b)):rnd up P.1 P.2=rnd up Q.1 Q.2:=by
 obtain⟨p1,p2⟩:=rnd_spec hP;obtain⟨q1,q2⟩:=rnd_spec hQ
 cases up
 ·exact(p1.sep hA1 hA2 hB1 hB2 hs).uniq q1
 ·refine Up.uniq (X:=vl Q) ?_ q2
  refine Dn.sep (a:= -b) (b:= -a) p2 (by omega) (by omega) (by omega) (by omega) (fun s=>?_)
  have:=hs (-s)
  rw[vr_neg]at this
  omega
theorem eq_rnd{P Q:Int × Int}(up:Bool)(hP:Nf P)(hQ:Nf Q)(h:vl P=vl Q):rnd up P.1 P.2=rnd up Q.1 Q.2:=by
 have a:=rnd_monoA hP hQ (Int.le_of_eq h) up;have b:=rnd_monoA hQ hP (Int.le_of_eq h.symm) up;exact Int.le_antisymm a b
theorem sep_sgi{P Q:Int × Int}{s:Bool}{A B a b:Int}(up:Bool)(hP:Nf P)(hQ:Nf Q)(eP:vl P=sgi s A)(eQ:vl Q=sgi s B)(hA1:a < A)(hA2:A < b)(hB1:a < B)(hB2:B < b)(hs:∀s,¬(a < vr s/\vr s < b)):rnd up P.1 P.2=rnd up Q.1 Q.2:=by
 cases s
 ·rw[wsg_f]at eP eQ;exact sep_rnd up hP hQ (a:=a) (b:=b) (by omega) (by omega) (by omega) (by omega) hs
 ·rw[wsg_t]at eP eQ
  refine sep_rnd up hP hQ (a:= -b) (b:= -a) (by omega) (by omega) (by omega) (by omega) (fun t=>?_)
  have:=hs (-t)
  rw[vr_neg]at this
  omega
theorem mk_vl{z e:Int}(h:z.natAbs < 2^128)(h1: -3000000<=e)(h2:e<=3000000):vl (mk z e)=z*2^(e+KK).toNat:=by
 obtain⟨η,hη⟩:∃η:Nat,η=4000000:=⟨_,rfl⟩;refine(mk_fit (h:=η) (by omega) (by omega) ?_).2
 have:=Nat.mul_lt_mul_of_pos_right h (Nat.pow_pos (n:=(e+(η:Int)).toNat) (show 0 < 2 by decide))
 rw[<-Nat.pow_add]at this;exact Nat.lt_of_lt_of_le this (Nat.pow_le_pow_right (by decide) (by omega))
theorem no_place{i:Int}{u:Nat}(hi:21267647932558653966460912964485513216<=i)(s:Int):¬(2*i*2^u < vr s/\vr s < (2*i+2)*2^u):=by
 rintro ⟨h1,h2⟩;have hu:=p2pos u
 have hpos:0 < vr s:=Int.lt_of_le_of_lt (Int.mul_nonneg (by omega) (Int.le_of_lt hu)) h1
 have hs:0 < s:=by
  rcases Int.lt_or_le 0 s with q | q
  ·exact q
  ·exfalso
   have:=vr_le q
   rw[show vr 0=0 from rfl]at this
   omega
 have e0:vr s=((s-1)%9223372036854775808+9223372036854775808)*2^((s-1) /9223372036854775808-1048576+KK).toNat:=by
  unfold vr vp
  rw[if_neg (by omega),if_neg (by omega)]
 obtain⟨M,hM⟩:∃M,(s-1)%9223372036854775808+9223372036854775808=M:=⟨_,rfl⟩;obtain⟨t,ht⟩:∃t,((s-1) /9223372036854775808-1048576+(KK:Int)).toNat=t:=⟨_,rfl⟩;rw[hM,ht]at e0
 have hMl:M < 18446744073709551616:=by omega
 rw[e0]at h1 h2;clear e0 hM ht hs hpos
 rcases Nat.lt_or_ge u t with q | q
 ·obtain⟨d,rfl⟩:∃d,t=u+1+d:=⟨t-(u+1),by omega⟩
  have e1:M*2^(u+1+d)=M*2^d*2*2^u:=by
   rw[Int.pow_add,Int.pow_succ];generalize (2:Int)^u=U;generalize (2:Int)^d=D;rw[Int.mul_assoc M D 2,Int.mul_assoc M,Int.mul_comm U 2,Int.mul_comm (2*U) D,Int.mul_assoc D 2 U]
  rw[e1]at h1 h2;have a1:=Int.lt_of_mul_lt_mul_right h1 (Int.le_of_lt hu);have a2:=Int.lt_of_mul_lt_mul_right h2 (Int.le_of_lt hu)
  omega
 ·obtain⟨d,rfl⟩:∃d,u=t+d:=⟨u-t,by omega⟩
  have ht:=p2pos t;have hd:=p2pos d;rw[Int.pow_add]at h1
  have l1:(2:Int)^t*1<=2^t*2^d:=Int.mul_le_mul_of_nonneg_left hd (Int.le_of_lt ht)
  rw[Int.mul_one]at l1
  have l2:2*i*(2:Int)^t<=2*i*(2^t*2^d):=Int.mul_le_mul_of_nonneg_left l1 (by omega)
  have a1:=Int.lt_of_mul_lt_mul_right (Int.lt_of_le_of_lt l2 h1) (Int.le_of_lt ht)
  omega
def mvd (M:Int)(n:Nat):Int:=if n<=64 then M*2^(64-n)else if M%2^(n-64)=0 then M/2^(n-64)else M/2^(n-64) /2*2+1
theorem p2_le{a b:Nat}(h:a<=b):(2:Int)^a<=2^b:=by
 have:=Nat.pow_le_pow_right (show 0 < 2 by decide) h
 exact_mod_cast this
theorem div_le_self{M p:Int}(h0:0<=M)(hp:0 < p):0<=M/p/\M/p<=M:=⟨Int.ediv_nonneg h0 (Int.le_of_lt hp),Int.ediv_le_self _ h0⟩
theorem mvd_bd{M:Int}{n:Nat}(h0:0<=M)(hM:LQ M)(hn:1<=n):0<=mvd M n/\mvd M n<=M*9223372036854775808+1/\mvd M n < 170141183460469231731687303715884105728/\(2<=n->mvd M n < 85070591730234615865843651857942052864):=by
 unfold mvd
 by_cases h:n<=64
 ·rw[if_pos h]
  have l1:=p2_le (show 64-n<=63 by omega)
  have l0:=p2pos (64-n);have a1:=Int.mul_le_mul_of_nonneg_left l1 h0
  rw[show (2:Int)^63=9223372036854775808 by decide]at a1
  refine⟨Int.mul_nonneg h0 (Int.le_of_lt l0),by omega,by omega,fun h2=>?_⟩
  have l2:=p2_le (show 64-n<=62 by omega)
  have a2:=Int.mul_le_mul_of_nonneg_left l2 h0
  rw[show (2:Int)^62=4611686018427387904 by decide]at a2
  omega
 ·rw[if_neg h];obtain⟨b1,b2⟩:=div_le_self h0 (p2pos (n-64))
  revert b1 b2
  generalize M/2^(n-64)=q
  intro b1 b2
  by_cases hr:M%2^(n-64)=0
  ·rw[if_pos hr]
   refine⟨by omega,by omega,by omega,fun _=>by omega⟩
  ·rw[if_neg hr]
   refine⟨by omega,by omega,by omega,fun _=>by omega⟩
theorem fq_vr{s:Bool}{M E x:Int}(q:Fq 1 s M E x):9223372036854775808<=M/\M < 18446744073709551616/\ -1048576<=E/\E<=1048576/\ -19342822337206103650074625 < x/\x < 19342822337206103650074625/\x≠0/\vr x=sgi s (M*2^(E+KK).toNat)/\decide (x < 0)=s:=by
 rcases q.cases with⟨c,_⟩ | ⟨_,h1,h2,h3,h4,h5⟩ | ⟨c,_⟩
 ·exact absurd c (by decide)
 ·have hv:=vp_fin h1 h2 h3
  have hx:x=sgi s (M-9223372036854775808+1+(E+1048576)*9223372036854775808):=by
   rcases h5 with⟨rfl,h5⟩ | ⟨rfl,h5⟩
   ·rw[wsg_f];omega
   ·rw[wsg_t];omega
  have hw:vr x=sgi s (M*2^(E+KK).toNat):=by
   rw[hx,vp_vr s (by omega),hv]
  refine⟨h1,h2,h3,h4,?_,?_,?_,hw,?_⟩
  ·rcases h5 with⟨_,h5⟩ | ⟨_,h5⟩ <;> omega
  ·rcases h5 with⟨_,h5⟩ | ⟨_,h5⟩ <;> omega
  ·rcases h5 with⟨_,h5⟩ | ⟨_,h5⟩ <;> omega
  ·rcases h5 with⟨rfl,h5⟩ | ⟨rfl,h5⟩
   ·exact df (by omega)
   ·exact dt (by omega)
 ·exact absurd c (by decide)
theorem sgi_add (s t:Bool)(x y:Int):sgi s x+sgi t y=sgi s (x+sgi (s !=t) y):=by
 cases s <;> cases t
 ·rw[show (false !=false)=false from rfl,wsg_f,wsg_f,wsg_f]
 ·rw[show (false !=true)=true from rfl,wsg_f,wsg_t,wsg_f]
 ·rw[show (true !=false)=true from rfl,wsg_t,wsg_f,wsg_t,wsg_t];omega
 ·rw[show (true !=true)=false from rfl,wsg_t,wsg_t,wsg_f,wsg_t];omega
theorem sgi_abs (s:Bool){S:Int}(h:0<=S):(sgi s S).natAbs=S.toNat:=by
 cases s
 ·rw[wsg_f];omega
 ·rw[wsg_t];omega
theorem sum_wide{s1 s2:Bool}{M1 M2 E1 E2 x y S:Int}{n:Nat}(up:Bool)(q1:Fq 1 s1 M1 E1 x)(q2:Fq 1 s2 M2 E2 y)(h:E2 < E1\/E2=E1/\M2<=M1)(hn:(n:Int)=E1-E2+1)(hS:S=M1*9223372036854775808+sgi (s1 !=s2) (mvd M2 n)):
  0<=S/\S < 340282366920938463463374607431768211456/\rnd up (mk (sgi s1 S) (E1-63)).1 (mk (sgi s1 S) (E1-63)).2=addp up x y:=by
 obtain⟨a1,a2,a3,a4,a5,a6,a7,a8,a9⟩:=fq_vr q1;obtain⟨b1,b2,b3,b4,b5,b6,b7,b8,b9⟩:=fq_vr q2;obtain⟨m0,m1,m2,m3⟩:=mvd_bd (M:=M2) (n:=n) (by omega) b2 (by omega);have hk:=KK_eq
 have hone:n=1->mvd M2 n=M2*9223372036854775808:=by
  rintro rfl
  unfold mvd
  rw[if_pos (by decide)]
  rfl
 have hS0:0<=S/\S < 340282366920938463463374607431768211456:=by
  rw[hS]
  cases hs:s1 !=s2
  ·rw[wsg_f];omega
  ·rw[wsg_t]
   by_cases c:n=1
   ·have:=hone c
    omega
   ·have:=m3 (by omega)
    omega
 refine⟨hS0.1,hS0.2,?_⟩;rw[addp_ff up (infp_fin a5 a6) (infp_fin b5 b6)];obtain⟨nf,ev⟩:=sum_spec a5 a6 b5 b6;have nfP:=mk_nf (sgi s1 S) (E1-63);have evP:=mk_vl (z:=sgi s1 S) (e:=E1-63) (by rw[sgi_abs s1 hS0.1];omega) (by omega) (by omega);obtain⟨u,hu⟩:∃u:Nat,(E1-63+(KK:Int)).toNat=u:=⟨_,rfl⟩;obtain⟨v,hv⟩:∃v:Nat,(E2+(KK:Int)).toNat=v:=⟨_,rfl⟩
 have e1:(E1+(KK:Int)).toNat=63+u:=by omega
 rw[hu]at evP
 rw[e1,Int.pow_add,show (2:Int)^63=9223372036854775808 by decide,<-Int.mul_assoc]at a8
 rw[hv]at b8;rw[a8,b8,sgi_add]at ev;rw[sgi_mul,hS,Int.add_mul,sgi_mul]at evP;rw[hS];rw[hS]at nfP
 by_cases c:n<=64
 ·have e2:mvd M2 n*2^u=M2*2^v:=by
   unfold mvd
   rw[if_pos c,Int.mul_assoc,<-Int.pow_add]
   congr 2
   omega
  exact eq_rnd up nfP nf (by rw[evP,ev,e2])
 ·have ek:u=v+(n-64):=by omega
  by_cases hr:M2%2^(n-64)=0
  ·have e2:mvd M2 n*2^u=M2*2^v:=by
    unfold mvd
    rw[if_neg c,if_pos hr,ek,Int.pow_add,Int.mul_comm (2^v),<-Int.mul_assoc]
    congr 1
    exact Int.ediv_mul_cancel (Int.dvd_of_emod_eq_zero hr)
   exact eq_rnd up nfP nf (by rw[evP,ev,e2])
  ·have hm:mvd M2 n=M2/2^(n-64) /2*2+1:=by
    unfold mvd
    rw[if_neg c,if_neg hr]
   have hd:=Int.mul_ediv_add_emod M2 (2^(n-64));have hp:=p2pos (n-64);have r0:=Int.emod_nonneg M2 (Int.ne_of_gt hp);have r1:=Int.emod_lt_of_pos M2 hp
   obtain⟨d1,d2⟩:=div_le_self (show 0<=M2 by omega) hp
   have hpv:=p2pos v;have hpu:=p2pos u;rw[hm]at evP nfP|-;rw[hm]at m0 m1;clear hone hS0 m2 m3 hS hm;generalize M2%2^(n-64)=r at hd r0 r1 hr;generalize M2/2^(n-64)=q at hd d1 d2 evP nfP m0 m1|-
   have hU:(2:Int)^u=2^(n-64)*2^v:=by rw[ek,Int.pow_add,Int.mul_comm]
   obtain⟨j,hj⟩:∃j,q/2=j:=⟨_,rfl⟩;rw[hj]at evP nfP m0 m1|-
   -- the exact one lies between 2 j and 2 j+2
   have y1:2*j*2^u < M2*2^v:=by
    rw[hU,<-Int.mul_assoc];refine Int.mul_lt_mul_of_pos_right ?_ hpv
    have l1:2*j*2^(n-64)<=q*2^(n-64):=Int.mul_le_mul_of_nonneg_right (by omega) (Int.le_of_lt hp)
    rw[Int.mul_comm q]at l1
    omega
   have y2:M2*2^v < (2*j+2)*2^u:=by
    rw[hU,<-Int.mul_assoc];refine Int.mul_lt_mul_of_pos_right ?_ hpv
    have l1:(q+1)*2^(n-64)<=(2*j+2)*2^(n-64):=Int.mul_le_mul_of_nonneg_right (by omega) (Int.le_of_lt hp)
    rw[Int.add_mul,Int.one_mul,Int.mul_comm q]at l1
    omega
   have z1:2*j*2^u < (j*2+1)*2^u:=Int.mul_lt_mul_of_pos_right (by omega) hpu
   have z2:(j*2+1)*2^u < (2*j+2)*2^u:=Int.mul_lt_mul_of_pos_right (by omega) hpu
   revert y1 y2 z1 z2 ev evP
   generalize M2*2^v=Y;generalize hZ:(j*2+1)*2^u=Z
   intro ev evP y1 y2 z1 z2
   cases hs:s1 !=s2
   ·rw[hs]at ev evP nfP;rw[wsg_f]at ev nfP|-;rw[wsg_f,wsg_f]at evP
    have f1:2*(M1*4611686018427387904+j)*2^u=M1*9223372036854775808*2^u+2*j*2^u:=by rw[<-Int.add_mul];congr 1;omega
    have f2:(2*(M1*4611686018427387904+j)+2)*2^u=M1*9223372036854775808*2^u+(2*j+2)*2^u:=by rw[<-Int.add_mul];congr 1;omega
    refine sep_sgi up nfP nf evP ev (a:=2*(M1*4611686018427387904+j)*2^u) (b:=(2*(M1*4611686018427387904+j)+2)*2^u) ?_ ?_ ?_ ?_ (no_place (by omega))
    ·rw[f1];omega
    ·rw[f2];omega
    ·rw[f1];omega
    ·rw[f2];omega
   ·rw[hs]at ev evP nfP;rw[wsg_t]at ev nfP|-;rw[wsg_t,wsg_t]at evP
    have f1:2*(M1*4611686018427387904-j-1)*2^u=M1*9223372036854775808*2^u-(2*j+2)*2^u:=by rw[<-Int.sub_mul];congr 1;omega
    have f2:(2*(M1*4611686018427387904-j-1)+2)*2^u=M1*9223372036854775808*2^u-2*j*2^u:=by rw[<-Int.sub_mul];congr 1;omega
    refine sep_sgi up nfP nf evP ev (a:=2*(M1*4611686018427387904-j-1)*2^u) (b:=(2*(M1*4611686018427387904-j-1)+2)*2^u) ?_ ?_ ?_ ?_ (no_place (by omega))
    ·rw[f1];omega
    ·rw[f2];omega
    ·rw[f1];omega
    ·rw[f2];omega
theorem pro_wide{s1 s2:Bool}{M1 M2 E1 E2 x y:Int}(up:Bool)(q1:Fq 1 s1 M1 E1 x)(q2:Fq 1 s2 M2 E2 y):
  0<=M1*M2/\M1*M2 < 340282366920938463463374607431768211456/\rnd up (mk (sgi (s1 !=s2) (M1*M2)) (E1+E2)).1 (mk (sgi (s1 !=s2) (M1*M2)) (E1+E2)).2=mulp up x y:=by
 obtain⟨a1,a2,a3,a4,a5,a6,a7,a8,a9⟩:=fq_vr q1;obtain⟨b1,b2,b3,b4,b5,b6,b7,b8,b9⟩:=fq_vr q2;have hk:=KK_eq
 have h0:0<=M1*M2:=Int.mul_nonneg (by omega) (by omega)
 have h1:M1*M2 < 340282366920938463463374607431768211456:=by
  have l1:M1*M2<=18446744073709551615*M2:=Int.mul_le_mul_of_nonneg_right (by omega) (by omega)
  omega
 refine⟨h0,h1,?_⟩;rw[mulp_fin up (by omega) (by rw[infp_fin a5 a6,infp_fin b5 b6];simp)];obtain⟨nf,ev⟩:=pro_spec a5 a6 b5 b6;have nfP:=mk_nf (sgi (s1 !=s2) (M1*M2)) (E1+E2);have evP:=mk_vl (z:=sgi (s1 !=s2) (M1*M2)) (e:=E1+E2) (by rw[sgi_abs _ h0];omega) (by omega) (by omega);refine eq_rnd up nfP nf ?_;refine Int.eq_of_mul_eq_mul_right (Int.ne_of_gt (p2pos KK)) ?_
 rw[ev,evP,a8,b8,Int.mul_assoc,<-Int.pow_add,show (E1+E2+(KK:Int)).toNat+KK=(E1+(KK:Int)).toNat+(E2+(KK:Int)).toNat by omega,Int.pow_add]
 generalize (2:Int)^(E1+(KK:Int)).toNat=U;generalize (2:Int)^(E2+(KK:Int)).toNat=V
 have e:∀a b:Int,a*b*(U*V)=a*U*(b*V):=fun a b=>by
  rw[Int.mul_assoc,Int.mul_assoc,<-Int.mul_assoc b,Int.mul_comm b U,Int.mul_assoc U]
 cases s1 <;> cases s2
 ·rw[show (false !=false)=false from rfl,wsg_f,wsg_f,wsg_f];exact e _ _
 ·rw[show (false !=true)=true from rfl,wsg_f,wsg_t,wsg_t,Int.neg_mul,Int.mul_neg];rw[e]
 ·rw[show (true !=false)=true from rfl,wsg_f,wsg_t,wsg_t,Int.neg_mul,Int.neg_mul];rw[e]
 ·rw[show (true !=true)=false from rfl,wsg_f,wsg_t,wsg_t,Int.neg_mul,Int.mul_neg,Int.neg_neg];exact e _ _
theorem raise_top{h l:Nat}(h0:h≠0)(hh:h < 18446744073709551616):
  blen (h*18446744073709551616+l)=64+blen h\/18446744073709551616<=l:=by
 rcases Nat.lt_or_ge l 18446744073709551616 with hl | hl
 ·left
  have:=blen_shift (h*18446744073709551616+l) 64 (by omega)
  rw[this]
  congr 2
  omega
 ·exact .inr hl
def Ra (S:Nat)(F T K X:Int):Prop:=0<=T/\T < 18446744073709551616/\0<=K/\K < 18446744073709551616/\T=(tp S:Nat)/\(S≠0->X=xp S F/\(K=0↔tp S*2^blen S=S*2^64))
theorem ra_low{l:Nat}{e:Int}(hl:l < 18446744073709551616):Ra l (e-64) ((l*2^(64-blen l):Nat):Int) 0 (e-64-(64-(blen l:Int))):=by
 have hb:=blen_mono_le (n:=l) (k:=64) hl;have ht:=tp_small hb;have h2:=tp_lt l;rw[ht]at h2
 refine⟨by omega,by omega,by omega,by omega,by rw[ht],fun h0=>⟨by unfold xp;omega,fun _=>?_,fun _=>rfl⟩⟩
 rw[ht,Nat.mul_assoc,<-Nat.pow_add]
 congr 2
 omega
theorem ra_high{h l:Nat}{e:Int}(h0:h≠0)(hh:h < 18446744073709551616)(hl:l < 18446744073709551616):
  Ra (h*18446744073709551616+l) (e-64) ((h*2^(64-blen h)+l/2^blen h:Nat):Int) ((l*2^(64-blen h)%18446744073709551616:Nat):Int) (e-(64-(blen h:Int))):=by
 have hb:=blen_mono_le (n:=h) (k:=64) hh
 have hbs:blen (h*18446744073709551616+l)=64+blen h:=by
  rcases raise_top (l:=l) h0 hh with q | q
  ·exact q
  ·omega
 have hp:0 < 2^blen h:=Nat.pow_pos (by decide)
 have hn:2^64=2^(64-blen h)*2^blen h:=by rw[<-Nat.pow_add];congr 1;omega
 have hn':(18446744073709551616:Nat)=2^blen h*2^(64-blen h):=by rw[Nat.mul_comm,<-hn]
 have ht:tp (h*18446744073709551616+l)=h*2^(64-blen h)+l/2^blen h:=by
  unfold tp
  rw[hbs,Nat.pow_add,Nat.mul_comm (2^64) (2^blen h),Nat.mul_div_mul_right _ _ (Nat.pow_pos (by decide)),hn',show h*(2^blen h*2^(64-blen h))=2^blen h*(h*2^(64-blen h)) by rw[<-Nat.mul_assoc,Nat.mul_comm h,Nat.mul_assoc],Nat.mul_add_div hp]
 have hm:l*2^(64-blen h)%18446744073709551616=l%2^blen h*2^(64-blen h):=by
  rw[hn',Nat.mul_mod_mul_right]
 have ht2:=tp_lt (h*18446744073709551616+l)
 have hml:=Nat.mod_lt (l*2^(64-blen h)) (show 0 < 18446744073709551616 by decide)
 refine⟨by omega,by omega,by omega,by omega,by rw[ht],fun _=>⟨?_,?_⟩⟩
 ·unfold xp
  rw[hbs]
  omega
 ·rw[hm,hbs,ht,Nat.pow_add,Nat.mul_comm (2^64) (2^blen h),<-Nat.mul_assoc];have hd:=Nat.div_add_mod l (2^blen h)
  have hS:h*18446744073709551616+l=(h*2^(64-blen h)+l/2^blen h)*2^blen h+l%2^blen h:=by
   rw[Nat.add_mul,Nat.mul_assoc h,<-hn,Nat.mul_comm (l/2^blen h),Nat.add_assoc,hd]
  rw[hS]
  have hp2:0 < 2^(64-blen h):=Nat.pow_pos (by decide)
  revert hS
  generalize (h*2^(64-blen h)+l/2^blen h)*2^blen h=Z;generalize l%2^blen h=m
  intro _
  constructor
  ·intro q
   have q1:m*2^(64-blen h)=0:=by exact_mod_cast q
   have q2:m=0:=by
    rcases Nat.mul_eq_zero.1 q1 with c | c
    ·exact c
    ·omega
   rw[q2,Nat.add_zero]
  ·intro q
   have q1:Z=Z+m:=Nat.eq_of_mul_eq_mul_right (show 0 < 2^64 by decide) q
   have q2:m=0:=by omega
   rw[q2,Nat.zero_mul]
   rfl
def exw (S:Nat)(F:Int):Bool:=S==0 || (decide (xp S F<=1048576) && (decide (-1048576<=xp S F) && decide (tp S*2^blen S=S*2^64)))
theorem exw_odd{m:Nat}(ho:m%2=1)(t:Nat)(F:Int):exw (m*2^t) F=ext m (F+t):=by
 have h0:m≠0:=by omega
 have h2:m*2^t≠0:=Nat.mul_ne_zero h0 (Nat.ne_of_gt (Nat.pow_pos (by decide)))
 have ex:xp (m*2^t) F=xp m (F+t):=by
  unfold xp
  rw[blen_mul h0]
  omega
 have e1:(m*2^t==0)=false:=by simpa using h2
 have e2:(m==0)=false:=by simpa using h0
 have e3:(tp (m*2^t)*2^blen (m*2^t)=m*2^t*2^64)↔blen m<=64:=by
  rw[tp_mul h0,blen_mul h0,Nat.pow_add,<-Nat.mul_assoc,Nat.mul_right_comm m]
  constructor
  ·intro q
   have q1:=Nat.eq_of_mul_eq_mul_right (Nat.pow_pos (n:=t) (show 0 < 2 by decide)) q
   rcases Nat.lt_or_ge 64 (blen m)with c | c
   ·exfalso
    rw[show 2^blen m=2^(blen m-65)*2*2^64 by rw[<-Nat.pow_succ,<-Nat.pow_add];congr 1;omega,<-Nat.mul_assoc]at q1
    have q2:=Nat.eq_of_mul_eq_mul_right (show 0 < 2^64 by decide) q1
    rw[<-Nat.mul_assoc]at q2
    omega
   ·exact c
  ·intro c
   rw[tp_small c,Nat.mul_assoc m,<-Nat.pow_add,show 64-blen m+blen m=64 by omega]
 unfold exw ext
 rw[ex,e1,e2,decide_eq_decide.2 e3]
theorem wide_rnd{S:Nat}{F N E:Int}{neg:Bool}(hS:S < 340282366920938463463374607431768211456)(h1: -3000000<=F)(h2:F<=3000000)(hN:(mk (sgi neg (S:Int)) F).1=N)(hE:(mk (sgi neg (S:Int)) F).2=E):
  (exw S F=true->∀up,rnd up N E=sgi neg (lo S F))/\rnd neg N E=sgi neg (lo S F)/\(exw S F=false->rnd (!neg) N E=nx (!neg) (sgi neg (lo S F))):=by
 by_cases h0:S=0
 ·subst h0
  have e0:sgi neg ((0:Nat):Int)=0:=by cases neg <;> rfl
  rw[e0,mk_zero]at hN hE;subst hN;subst hE
  have e1:sgi neg (lo 0 F)=0:=by
   have:lo 0 F=0:=by
    unfold lo
    rw[if_pos rfl]
   rw[this]
   cases neg <;> rfl
  have e2:exw 0 F=true:=by
   unfold exw
   rfl
  rw[e1,e2]
  exact⟨fun _ up=>rnd_nought up,rnd_nought neg,fun c=>absurd c (by decide)⟩
 ·have hab:(sgi neg (S:Int)).natAbs=S:=by rw[sgi_abs neg (by omega)];omega
  obtain⟨s1,s2⟩:=v2_spec S h0
  have hv:v2 S < 128:=by
   have h3:=v2_pow_le h0
   have h4:2^v2 S < 2^128:=by omega
   exact(Nat.pow_lt_pow_iff_right (by decide)).1 h4
  have hz:sgi neg (S:Int)≠0:=by
   intro c
   rw[c]at hab;exact h0 hab.symm
  obtain⟨m1,m2,m3,m4,m5⟩:=mk_in (z:=sgi neg (S:Int)) (e:=F) hz (by omega) (by rw[hab];omega);rw[hab]at m1 m2;rw[hE]at m1;rw[hN]at m2 m3
  have hsn:neg=decide (N < 0):=by
   cases neg
   ·rw[wsg_f]at m3;exact(df (by omega)).symm
   ·rw[wsg_t]at m3;exact(dt (by omega)).symm
  have hx:exw S F=ext N.natAbs E:=by
   rw[m2,m1]
   conv=>lhs;rw[s1]
   exact exw_odd s2 _ F
  have hl:lo S F=lo N.natAbs E:=by
   rw[m2,m1]
   conv=>lhs;rw[s1]
   exact lo_mul (by omega) _ F
  rw[hx,hl]
  refine⟨fun c up=>?_,?_,fun c=>?_⟩
  ·rw[rnd_ext c,<-hsn]
  ·exact rnd_same hsn rfl
  ·rw[rnd_diff hsn,nx_lo neg c]
theorem fq_inf{D:Int}{s:Bool}{M E x:Int}(q:Fq D s M E x):infp x=(D==2):=by
 have htp:=TP_eq
 rcases q.cases with⟨rfl,rfl,rfl,rfl,h0⟩ | ⟨rfl,h1,h2,h3,h4,⟨rfl,h5⟩ | ⟨rfl,h5⟩⟩ | ⟨rfl,rfl,rfl,⟨rfl,h5⟩ | ⟨rfl,h5⟩⟩ <;> unfold infp <;> rw[Bool.eq_iff_iff] <;> simp <;> omega
theorem fq_same{s s':Bool}{M M' E E' x y:Int}(q:Fq 2 s M E x)(q':Fq 2 s' M' E' y):x=y↔s=s':=by
 have htp:=TP_eq
 rcases q.cases with⟨h,_⟩ | ⟨h,_⟩ | ⟨_,rfl,rfl,⟨rfl,h5⟩ | ⟨rfl,h5⟩⟩
 ·omega
 ·omega
 all_goals
  rcases q'.cases with⟨h,_⟩ | ⟨h,_⟩ | ⟨_,rfl,rfl,⟨rfl,k5⟩ | ⟨rfl,k5⟩⟩
  ·omega
  ·omega
  ·constructor <;> intro e <;> first | rfl | omega | exact absurd e (by decide)
  ·constructor <;> intro e <;> first | rfl | omega | exact absurd e (by decide)
abbrev Sp:=Option (Int × Int)
def mkI (a b:Int):Sp:=if a<=b/\a < 19342822337206103650074625/\ -19342822337206103650074625 < b then some (a,b)else none
def SpOk:Sp->Prop
 | none=>True
 | some (a,b)=> -19342822337206103650074625<=a/\a<=b/\b<=19342822337206103650074625/\a < 19342822337206103650074625/\ -19342822337206103650074625 < b
theorem mkI_some{a b:Int}(h:a<=b)(h1:a < 19342822337206103650074625)(h2: -19342822337206103650074625 < b):mkI a b=some (a,b):=by
 unfold mkI
 rw[if_pos ⟨h,h1,h2⟩]
theorem mkI_none{a b:Int}(h:¬(a<=b/\a < 19342822337206103650074625/\ -19342822337206103650074625 < b)):mkI a b=none:=by
 unfold mkI
 rw[if_neg h]
theorem mkI_ok{a b:Int}(h1: -19342822337206103650074625<=a)(h2:b<=19342822337206103650074625):SpOk (mkI a b):=by
 by_cases h:a<=b/\a < 19342822337206103650074625/\ -19342822337206103650074625 < b
 ·rw[mkI_some h.1 h.2.1 h.2.2];exact⟨h1,h.1,h2,h.2.1,h.2.2⟩
 ·rw[mkI_none h];exact trivial
theorem SpOk.mk{a b:Int}(h:SpOk (some (a,b))):mkI a b=some (a,b):=mkI_some h.2.1 h.2.2.2.1 h.2.2.2.2
def meetI:Sp->Sp->Sp
 | some (a,b),some (c,d)=>mkI (max a c) (min b d)
 | _,_=>none
def hullI:Sp->Sp->Sp
 | none,y=>y
 | x,none=>x
 | some (a,b),some (c,d)=>mkI (min a c) (max b d)
def allI:Sp:=some (-19342822337206103650074625,19342822337206103650074625)
def witI:Sp->Sp->Bool
 | none,_=>true
 | some _,none=>false
 | some (a,b),some (c,d)=>decide (c<=a) && decide (b<=d)
def widI:Sp->Int
 | none=>0
 | some (a,b)=>addp true b (-a)
def infI (x:Sp)(y:Int):Sp:=match x with
 | none=>none
 | some (a,b)=>if y < 0 then some (a,b)else mkI (addp false a (-y)) (addp true b y)
def meetL (l:List Sp):Sp:=l.foldl meetI allI
def hullL (l:List Sp):Sp:=l.foldl hullI none
theorem meetI_none (x:Sp):meetI x none=none:=by cases x <;> rfl
theorem hullI_none (x:Sp):hullI x none=x:=by cases x <;> rfl
theorem hullI_some{a b c d:Int}(hx:SpOk (some (a,b)))(hy:SpOk (some (c,d))):hullI (some (a,b)) (some (c,d))=some (min a c,max b d):=by
 obtain⟨h1,h2,h3,h4,h5⟩:=hx;obtain⟨k1,k2,k3,k4,k5⟩:=hy;exact mkI_some (by omega) (by omega) (by omega)
theorem all_ok:SpOk allI:=⟨by decide,by decide,by decide,by decide,by decide⟩
theorem meet_cases (a b c d:Int):(meetI (some (a,b)) (some (c,d))=none/\¬(max a c<=min b d/\max a c < 19342822337206103650074625/\ -19342822337206103650074625 < min b d))\/(meetI (some (a,b)) (some (c,d))=some (max a c,min b d)/\max a c<=min b d):=by
 by_cases h:max a c<=min b d/\max a c < 19342822337206103650074625/\ -19342822337206103650074625 < min b d
 ·exact .inr ⟨mkI_some h.1 h.2.1 h.2.2,h.1⟩
 ·exact .inl ⟨mkI_none h,h⟩
theorem meet_comm (x y:Sp):meetI x y=meetI y x:=by
 rcases x with _ | ⟨a,b⟩
 ·rw[meetI_none];rfl
 ·rcases y with _ | ⟨c,d⟩
  ·rfl
  ·show mkI _ _=mkI _ _
   rw[show max a c=max c a by omega,show min b d=min d b by omega]
theorem wit_is_meet{x y:Sp}(hx:SpOk x)(hy:SpOk y):witI x y=true↔meetI x y=x:=by
 rcases x with _ | ⟨a,b⟩
 ·exact⟨fun _=>rfl,fun _=>rfl⟩
 ·rcases y with _ | ⟨c,d⟩
  ·exact⟨fun h=>(by cases h),fun h=>(by cases h)⟩
  ·obtain⟨h1,h2,h3,h4,h5⟩:=hx;obtain⟨k1,k2,k3,k4,k5⟩:=hy
   rcases meet_cases a b c d with⟨e,h⟩ | ⟨e,h⟩ <;> rw[e] <;> simp[witI] <;> omega
theorem meet_all{x:Sp}(hx:SpOk x):meetI allI x=x:=by
 rw[meet_comm];refine(wit_is_meet hx all_ok).1 ?_
 rcases x with _ | ⟨a,b⟩
 ·rfl
 ·obtain⟨h1,h2,h3,h4,h5⟩:=hx
  simp[witI,allI]
  omega
def mvs (p:Int × Int)(k:Int):Int × Int:=mk p.1 (p.2+k)
theorem dMove{w:World}{A:Option Addr}{n c:Nat}{s:Bool}{z e k N E:Int}(hT:Tab w)(h:Wr w s A n c z)(hn:n<=100000)(k1: -2000<=k)(k2:k<=2000)(hN:(mvs (mk z e) k).1=N)(hE:(mvs (mk z e) k).2=E):
  Calls Tryz.prog 212 #[.agg #[.bool s,.slice A n c,.int .i64 e],.int .i64 k] w (D1 w n N E):=by
 obtain⟨b1,b2⟩:=mk_bd z e
 have hv:mvs (mk z e) k=mk (mk z e).1 (IntKind.i64.wrap ((mk z e).2+k)):=by rw[IntWalk.i64_in _ (by omega)];rfl
 rw[hv]at hN hE;exact dMoveW hT h hn hN hE
def PR2 (w:World)(v:Nat)(e:Ending)(w':World):Prop:=∃A,e= .returned (.slice A 2 2)/\Rd w' A 2 2 v/\Below w.heap.size w w'
theorem qLimbs{w:World}{M:Int}{N:Nat}(hM:(N:Int)=M)(h:N < 18446744073709551616):Calls Tryz.prog 216 #[.int .u64 M] w (PR2 w N):=by
 subst hM
 go_enter Tryz.func216,Tryz.ntmps216
 go_wp2
 go_ret
 exact⟨_,rfl,two_rd _ (by simp) (k:=N) (by omega) (by omega) h,bel1 _ _⟩
theorem qmoved_up{w:World}{A:Option Addr}{n c α k r:Nat}(h:Rd w A n c α)(hn:n<=8000)(hk:k<=200000)(hr:α*2^k=r):Calls Tryz.prog 250 #[.slice A n c,.int .i64 (k:Int)] w (P1B w 15000 r true):=by
 have HR:=ie hr;clear hr
 have hd:decide ((0:Int)<=(k:Int))=true:=dt (Int.natCast_nonneg k)
 go_enter Tryz.func250,Tryz.ntmps250
 go_wp2_with fail
 refine(vShlE h (by omega) (by omega) HR.out).mono ?_;rintro ee w2 ⟨A2,n2,c2,rfl,p2,k2,B2⟩;go_wp2;exact bq (v:= .tuple #[.slice A2 n2 c2,.bool true]) (by simp[results,Tryz.results250,go_sem]) rfl ⟨A2,n2,c2,rfl,p2,by omega,B2⟩
theorem qmoved_dn{w:World}{A:Option Addr}{n c α k d r:Nat}{z y:Int}{t:Bool}(h:Rd w A n c α)(hn:n<=8000)(hk:k<=200000)(h0:0 < k)(hz: -z=(k:Int))(hr:α/2^k=r)(hd:r*2^k=d)(hy:cmpI (d:Int) (α:Int)=y)(ht:(y==0)=t):Calls Tryz.prog 250 #[.slice A n c,.int .i64 z] w (P1B w 15000 r t):=by
 have HR:Hid (α/2^(k:Int).toNat=r):=ie (by rw[Int.toNat_natCast];exact hr)
 have HD:=ie hd;have HY:=ie hy
 have hlt:decide (0<=z)=false:=df (by omega)
 have hlt2:¬(0<=z):=by omega
 have hw:IntKind.i64.wrap (-z)=(k:Int):=by rw[hz];exact IntWalk.i64_in _ (by omega)
 clear hr hd hy
 go_enter Tryz.func250,Tryz.ntmps250
 go_wp2_with fail
 refine(vShrE (z:=(k:Int)) h (by omega) HR.out).mono ?_;rintro ee w2 ⟨A2,n2,c2,rfl,p2,k2,B2⟩
 go_wp2_with fail
 refine(vShlE p2.rd (by omega) (by omega) HD.out).mono ?_;rintro ee w3 ⟨A3,n3,c3,rfl,p3,k3,B3⟩
 go_wp2_with fail
 refine(vCmpE p3.rd ((h.below B2).below B3) HY.out).mono ?_;rintro ee w4 ⟨rfl,B4⟩;go_wp2;exact bq (v:= .tuple #[.slice A2 n2 c2,.bool t]) (by simp[results,Tryz.results250,go_sem]) rfl ⟨A2,n2,c2,rfl,(p2.below B3).below B4,by omega,bt B2 (bt B3 B4)⟩
theorem qAway{w:World}{up:Bool}{r:Int}(hr:sgi (!up) TP=r):Calls Tryz.prog 214 #[.bool up] w (PN w r):=by
 have HR:=ie hr;clear hr
 go_enter Tryz.func214,Tryz.ntmps214
 go_upto_region 1 with (fail)
 generalize hW1:w.alloc _=w1 at *;obtain⟨XR,HB⟩:=Bo.en1 hW1;clear hW1
 go_wp2_with fail
 refine(nInf (s:=!up) HR.out).mono ?_;rintro ee w2 ⟨K1,s1,M1,E1,rfl,q1,B⟩;replace XR:=XR.b B;replace HB:=Hqb HB B;clear B;have xXR:=XR.cell;have zXR0:=XR.frozen;go_wp2;clear xXR zXR0;have SX:=StN.t4 XR K1 s1 M1 E1;exact bq (by simp[results,Tryz.results214,go_sem,SX.box.cell]) rfl ⟨_,_,_,_,rfl,q1,(SX.below HB.out (by omega))⟩
theorem fq_tk7{D:Int}{s:Bool}{M E:Int}(hM:LQ M):∃K1 s1 M1 E1,Fq K1 s1 M1 E1 (rk D s M E):=by
 by_cases hm:MayQ D s M E
 ·exact⟨_,_,_,_,rk_fq hM hm⟩
 ·rw[rk_not hm];exact⟨_,_,_,_,Fq.nought⟩
theorem qTaken{w:World}{D M E:Int}{s:Bool}{K1 M1 E1 x:Int}{s1:Bool}(hM:LQ M)(q:Fq K1 s1 M1 E1 x)(hx:rk D s M E=x):Calls Tryz.prog 213 #[VQ D s M E] w (fun e w'=>e= .returned (.agg #[.int .i64 K1,.bool s1,.int .u64 M1,.int .i64 E1])/\Below w.heap.size w w'):=by
 delta VQ
 by_cases hm:MayQ D s M E
 ·obtain⟨rfl,rfl,rfl,rfl⟩:=q.uniq (hx▸rk_fq hM hm)
  have HC:=ie (show decide (MayQ K1 s1 M1 E1)=true from dt hm)
  clear hm hx hM q
  go_enter Tryz.func213,Tryz.ntmps213
  go_upto_region 1 with (fail)
  generalize hW1:(w.alloc _).alloc _=w1 at *;obtain⟨X1,XR,HB⟩:=Bo.en2 hW1;clear hW1;have xX1:=X1.cell
  go_wp2_with fail
  refine(nMay HC.out).mono ?_;rintro ee w2 ⟨rfl,B⟩;clear xX1;replace X1:=X1.b B;replace XR:=XR.b B;replace HB:=Hqb HB B;clear B;have xXR:=XR.cell;have zXR0:=XR.frozen;have xX1:=X1.cell;go_wp2;clear xXR zXR0 xX1;have SX:=StN.t4 XR K1 s1 M1 E1
  exact bq (v:= .agg #[.int .i64 K1,.bool s1,.int .u64 M1,.int .i64 E1]) (by simp[results,Tryz.results213,go_sem,SX.box.cell]) rfl ⟨rfl,(SX.below HB.out (by omega))⟩
 ·rw[rk_not hm]at hx;subst hx;obtain⟨rfl,rfl,rfl,rfl⟩:=q.uniq Fq.nought
  have HC:=ie (show decide (MayQ D s M E)=false from df hm)
  clear hm hM q
  go_enter Tryz.func213,Tryz.ntmps213
  go_upto_region 1 with (fail)
  generalize hW1:(w.alloc _).alloc _=w1 at *;obtain⟨X1,XR,HB⟩:=Bo.en2 hW1;clear hW1;have xX1:=X1.cell
  go_wp2_with fail
  refine(nMay HC.out).mono ?_;rintro ee w2 ⟨rfl,B⟩;clear xX1;replace X1:=X1.b B;replace XR:=XR.b B;replace HB:=Hqb HB B;clear B;have xXR:=XR.cell;have zXR0:=XR.frozen;have xX1:=X1.cell;go_wp2;clear xXR zXR0 xX1;have SX:=StN.t4 XR 0 false 0 0
  exact bq (v:= .agg #[.int .i64 0,.bool false,.int .u64 0,.int .i64 0]) (by simp[results,Tryz.results213,go_sem,SX.box.cell]) rfl ⟨rfl,(SX.below HB.out (by omega))⟩
end Go.Proofs.YtomikokonmikgaaGreatDoor
namespace Go.Proofs.YtomikokonmikgaaGreatDoor.Jo
open Go Go.RowKit
set_option linter.unusedVariables false
def upd (vs:Nat->Value)(i:Nat)(v:Value):Nat->Value:=fun x=>if x=i then v else vs x
theorem upd_same (vs:Nat->Value)(i:Nat)(v:Value):upd vs i v i=v:=if_pos rfl
theorem upd_ne{vs:Nat->Value}{i j:Nat}{v:Value}(h:j≠i):upd vs i v j=vs j:=if_neg h
section
variable {P:Program} {md:Region.Mode} {ops:Array Oper} {Q:Exit->Act->World->Prop} {a0:Act} {T:List Nat} {dst:Nat->Option Tmp} {D:Nat->List Nat} {k:Nat} {I:List Nat->(Nat->Value)->World->Prop}
def StepsI (P:Program)(ops:Array Oper)(Q:Exit->Act->World->Prop)(a0:Act)(dst:Nat->Option Tmp)(D:Nat->List Nat)(I:List Nat->(Nat->Value)->World->Prop)(T:List Nat):Prop:=
 ∀i ∈ T,∀l vs w,I l vs w->i ∉ l->(∀j ∈ D i,j ∈ l)->wpOp P ops Q i (fun a' w'=>∃v,a'=(base dst vs (D i) a0).put (dst i) v/\I (l ++[i]) (upd vs i v) w') (base dst vs (D i) a0) w
theorem StepsI.nil:StepsI P ops Q a0 dst D I []:=fun _ h=>by cases h
theorem StepsI.cons{i:Nat}{o:Oper}{r:List Nat}(ho:ops[i]?=some o)
  (h:∀l vs w,I l vs w->i ∉ l->(∀j ∈ D i,j ∈ l)->∀K:Act->World->Prop,Shut (∀v w',I (l ++[i]) (upd vs i v) w'->K ((base dst vs (D i) a0).put (dst i) v) w')->
   if Region.wanted o (yielded ops (base dst vs (D i) a0).tmps)=true then Oper.wp P o (base dst vs (D i) a0) w K Q else K ((base dst vs (D i) a0).put o.dst undef) w)
  (hs:StepsI P ops Q a0 dst D I r):StepsI P ops Q a0 dst D I (i::r):=fun j hj=>by
 rcases List.mem_cons.1 hj with rfl | hj
 ·exact fun l vs w hI hn hd=>wpOp_step ho (fun K hK=>h l vs w hI hn hd K (fun v w' h1=>hK _ _ ⟨v,rfl,h1⟩))
 ·exact hs j hj
theorem wpAny_inv (w0:World)(hok:ok md ops T dst D k a0.tmps.size=true)(hnd:T.Nodup)(hQ:∀c a b w,Q (.panic c) b w->Q (.panic c) a w)
  (h0:I [] (fun _=>undef) w0) (step:StepsI P ops Q a0 dst D I T)
  (fin:∀l vs w,(∀j,j ∈ l↔j ∈ T)->I l vs w->wpAny P md ops Q (ops.size-T.length) (mark T ops.size) (base dst vs T a0) w):
  wpAny P md ops Q ops.size (Array.replicate ops.size false) a0 w0:=by
 unfold ok at hok
 simp only[Bool.and_eq_true,List.all_eq_true,List.mem_range,Bool.or_eq_true,decide_eq_true_eq,List.contains_iff_mem]at hok;obtain⟨⟨hsel,hT⟩,hx⟩:=hok
 have hinj:∀i ∈ T,∀j ∈ T,∀d,dst i=some d->dst j=some d->i=j:=fun i hi j hj d=>(okAt_spec (hT i hi)).2.2.2.1 j hj d
 have go:∀(fuel:Nat) (l:List Nat) (vs:Nat->Value) (w:World) (L:Array Bool),fuel+l.length=ops.size->l.Nodup->(∀j ∈ l,j ∈ T)->(∀j ∈ l,∀x ∈ dep md ops j,x ∈ l)->Good ops.size l L->I l vs w->wpAny P md ops Q fuel L (base dst vs l a0) w:=by
  intro fuel
  induction fuel with
  | zero=>
   intro l vs w L hf hn hl hcl hg hI
   by_cases hall:∀j ∈ T,j ∈ l
   ·have hs:∀j,j ∈ l↔j ∈ T:=fun j=>⟨hl j,hall j⟩
    have h1:=nodup_le hn hl;have h2:=nodup_le hnd hall
    have:=fin l vs w hs hI
    rw[<-hg.eq (good_mark T ops.size) hs,<-base_same hinj hl (fun _ h=>h) hs,show ops.size-T.length=0 by omega]at this
    exact this
   ·exfalso
    obtain⟨j,hj⟩:=Classical.not_forall.1 hall;obtain⟨hj,hjl⟩:=Classical.not_imp.1 hj
    have:=nodup_le (l:=j::l) (m:=List.range ops.size) (List.nodup_cons.2 ⟨hjl,hn⟩) (fun x hx=>List.mem_range.2 (by
     rcases List.mem_cons.1 hx with rfl | hx
     ·exact(okAt_spec (hT x hj)).1
     ·exact(okAt_spec (hT x (hl x hx))).1))
    simp at this
    omega
  | succ fuel ih=>
   intro l vs w L hf hn hl hcl hg hI
   by_cases hall:∀j ∈ T,j ∈ l
   ·have hs:∀j,j ∈ l↔j ∈ T:=fun j=>⟨hl j,hall j⟩
    have h1:=nodup_le hn hl;have h2:=nodup_le hnd hall
    have:=fin l vs w hs hI
    rw[<-hg.eq (good_mark T ops.size) hs,<-base_same hinj hl (fun _ h=>h) hs,show ops.size-T.length=fuel+1 by omega]at this
    exact this
   ·obtain⟨j0,hj0⟩:=Classical.not_forall.1 hall;obtain⟨hj0,hj0l⟩:=Classical.not_imp.1 hj0
    have rdy:∀m,m < ops.size->m ∉ l->∃r,r ∈ Region.ready md ops L:=by
     intro m
     induction m using Nat.strongRecOn with
     | ind m ihm=>
      intro hm hml
      by_cases hd:∀x ∈ dep md ops m,x ∈ l
      ·refine⟨m,mem_ready.2 ⟨by rw[Array.getD_eq_getD_getElem?,hg.2 m hm];simp[hml],ops[m],by simp[hm],fun e he hb=>?_⟩⟩
       have:e.on ∈ dep md ops m:=by
        simp only[dep,hm,Array.getElem?_eq_getElem,Option.map_some,Option.getD_some];exact List.mem_map.2 ⟨e,List.mem_filter.2 ⟨by simpa using he,hb⟩,rfl⟩
       have hlt:=(okAt_spec (hT _ (hl _ (hd _ this)))).1;rw[Array.getD_eq_getD_getElem?,hg.2 _ hlt]
       simp[hd _ this]
      ·obtain⟨x,hx1⟩:=Classical.not_forall.1 hd;obtain⟨hx1,hx2⟩:=Classical.not_imp.1 hx1;have hlt:=(hx m hm).1 x hx1;exact ihm x hlt (by omega) hx2
    refine⟨fun hr=>?_,fun i hi=>?_⟩
    ·obtain⟨r,hr2⟩:=rdy j0 (okAt_spec (hT j0 hj0)).1 hj0l;rw[hr]at hr2
     cases hr2
    ·obtain⟨h0,o,ho,haf⟩:=mem_ready.1 hi
     have hlt:i < ops.size:=(Array.getElem?_eq_some_iff.1 ho).1
     have hil:i ∉ l:=by
      rw[Array.getD_eq_getD_getElem?,hg.2 i hlt]at h0
      simpa using h0
     have hdep:∀x ∈ dep md ops i,x ∈ l:=by
      intro x hx1
      simp only[dep,ho,Option.map_some,Option.getD_some]at hx1;obtain⟨e,he,rfl⟩:=List.mem_map.1 hx1;obtain⟨he1,he2⟩:=List.mem_filter.1 he;have h1:=haf e (by simpa using he1) he2;have h2:=(hx i hlt).1 e.on (by simp only[dep,ho,Option.map_some,Option.getD_some];exact List.mem_map.2 ⟨e,he,rfl⟩);rw[Array.getD_eq_getD_getElem?,hg.2 _ (by omega)]at h1
      simpa using h1
     have hiT:i ∈ T:=by
      rcases (hx i hlt).2 with h | h
      ·exact h
      ·exact absurd (anc_sub hcl k _ hdep j0 (h j0 hj0)) hj0l
     obtain⟨_,hds,hsz,hin,hD,hlk⟩:=okAt_spec (hT i hiT)
     have hds':o.dst=dst i:=by rw[<-hds,ho];rfl
     have hDl:∀j ∈ D i,j ∈ l:=fun j hj=>anc_sub hcl k _ hdep j (hD j hj).2
     have hstep:=step i hiT l vs w hI hil hDl;rw[<-hds']at hstep
     have hag:∀t ∈ o.looksAt ops,(base dst vs l a0).tmps[t]?=(base dst vs (D i) a0).tmps[t]?:=by
      intro t ht
      by_cases h:∃j ∈ l,dst j=some t
      ·obtain⟨j,hj,hd⟩:=h
       have htz:t < a0.tmps.size:=(okAt_spec (hT j (hl j hj))).2.2.1 t hd
       have hjD:=hlk o ho t ht j (hl j hj) hd
       rw[base_hit hd l a0 hj htz (fun x hx hx2=>hinj x (hl x hx) j (hl j hj) t hx2 hd),base_hit hd (D i) a0 hjD htz (fun x hx hx2=>hinj x (hl x (hDl x hx)) j (hl j hj) t hx2 hd)]
      ·rw[base_miss l a0 (fun j hj hd=>h ⟨j,hj,hd⟩),base_miss (D i) a0 (fun j hj hd=>h ⟨j,hDl j hj,hd⟩)]
     have:=wpOp_frame ho (Region.noSelect_spec hsel i o · · ho) hag hQ (fun d hd=>by rw[base_size];exact hsz d (hds'▸hd)) hstep
     refine wpOp_mono ?_ this;rintro a' w' ⟨v,rfl,h1⟩
     have e:(base dst vs l a0).put o.dst v=base dst (upd vs i v) (l ++[i]) a0:=by
      rw[base_snoc,upd_same,hds']
      congr 1
      exact base_vs l a0 (fun j hj=>by
       have hne:j≠i:=fun e=>hil (e▸hj)
       rw[upd_ne hne])
     rw[e];refine ih (l ++[i]) _ w' _ (by simp;omega) ?_ ?_ ?_ (hg.set i) h1
     ·rw[List.nodup_append]
      refine⟨hn,by simp,fun x hx y hy=>?_⟩
      simp at hy
      subst hy
      exact fun e=>hil (e▸hx)
     ·intro j hj
      rcases List.mem_append.1 hj with h | h
      ·exact hl j h
      ·simp at h;subst h;exact hiT
     ·intro j hj x hx1
      rcases List.mem_append.1 hj with h | h
      ·exact List.mem_append_left _ (hcl j h x hx1)
      ·simp at h;subst h;exact List.mem_append_left _ (hdep x hx1)
 exact go ops.size [] (fun _=>undef) w0 _ (by simp) (by simp) (fun _ h=>by cases h) (fun _ h=>by cases h) (good_nil _) h0
end
section
variable {P:Program} {ops:Array Oper} {Q:Exit->Act->World->Prop} {a0:Act} {T:List Nat} {ds:List (Option Tmp)} {ls:List (List Nat)} {k:Nat} {I:List Nat->(Nat->Value)->World->Prop}
theorem icons{i:Nat}{o:Oper}{r:List Nat}{di:Option Tmp}{L:List (Option Tmp × Nat)}(ho:ops[i]?=some o)(hdi:ds.getD i none=di)(hL:((ls.getD i []).map fun j=>(ds.getD j none,j))=L)
  (h:∀l vs w,I l vs w->i ∉ l->(∀j ∈ ls.getD i [],j ∈ l)->∀K:Act->World->Prop,Shut (∀v w',I (l ++[i]) (upd vs i v) w'->K ((putl vs L a0).put di v) w')->
   if Region.wanted o (yielded ops (putl vs L a0).tmps)=true then Oper.wp P o (putl vs L a0) w K Q else K ((putl vs L a0).put o.dst undef) w)
  (hs:StepsI P ops Q a0 (dstOf ds) (depOf ls) I r):StepsI P ops Q a0 (dstOf ds) (depOf ls) I (i::r):=by
 refine StepsI.cons ho (fun l vs w hI hn hd K hK=>?_) hs
 have e:base (dstOf ds) vs (depOf ls i) a0=putl vs L a0:=by
  rw[base_putl,<-hL]
  rfl
 rw[e]at hK|-;refine h l vs w hI hn hd K ?_
 intro v w' h1
 have:=hK.out v w' h1
 rwa [show dstOf ds i=di from hdi]at this
theorem region_inv{id fuel:Nat}{w:World}{L:List (Option Tmp × Nat)}(hm:P.follows .mixedOrders=true)(hok:ok .any ops T (dstOf ds) (depOf ls) k a0.tmps.size=true)(hnd:T.Nodup)
  (hL:(T.map fun j=>(ds.getD j none,j))=L) (hfu:ops.size-T.length=fuel) (h0:I [] (fun _=>undef) w.drew)
  (step:StepsI P ops (NoPanic Q) a0 (dstOf ds) (depOf ls) I T)
  (fin:∀l vs wj,(∀j,j ∈ l↔j ∈ T)->I l vs wj->wpAny P .any ops (NoPanic Q) fuel (mark T ops.size) (putl vs L a0) wj):
  (Code.region id ops true).wp P Q a0 w:=by
 refine wp_region_noPanic ?_
 refine wp_region_any hm (wpAny_inv (T:=T) (dst:=dstOf ds) (D:=depOf ls) (k:=k) (I:=I) _ hok hnd (fun _ _ _ _ h=>h) h0 step ?_)
 intro l vs w hl hI
 have e:base (dstOf ds) vs T a0=putl vs L a0:=by
  rw[base_putl,<-hL]
  rfl
 rw[e,hfu];exact fin l vs w hl hI
end
def Two2 (w1:World)(p0 n0 p2 n2:Value)(old new:Array Value)(R:TypeId)(l:List Nat)(vs:Nat->Value)(w:World):Prop:=
 Below w1.heap.size w1 w/\(6 ∈ l->4 ∈ l/\5 ∈ l)/\(0 ∈ l->vs 0=p0)/\(1 ∈ l->vs 1=n0)/\(2 ∈ l->vs 2=p2)/\(3 ∈ l->vs 3=n2)/\
  (4 ∈ l->∃g,vs 4= .pointer (some ⟨g,0,none⟩)/\w1.heap.size<=g/\(6 ∈ l->Bo w g new R)/\(6 ∉ l->Bo w g old R))/\
  (5 ∈ l->∃g,vs 5= .pointer (some ⟨g,0,none⟩)/\w1.heap.size<=g/\Bo w g old R)/\(4 ∈ l->5 ∈ l->vs 4≠vs 5)
section
variable {w1 w w':World} {p0 n0 p2 n2 v:Value} {old new:Array Value} {R:TypeId} {l:List Nat} {vs:Nat->Value} {i:Nat}
theorem Two2.nil:Two2 w1 p0 n0 p2 n2 old new R [] (fun _=>undef) w1.drew:=⟨(br _ _).drew,by simp,by simp,by simp,by simp,by simp,by simp,by simp,by simp⟩
theorem mem_snoc{j:Nat}(h:j≠i):j ∈ l ++[i]↔j ∈ l:=by
 rw[List.mem_append]
 constructor
 ·rintro (e | e)
  ·exact e
  ·simp at e;exact absurd e h
 ·exact .inl
theorem Two2.all (h:Two2 w1 p0 n0 p2 n2 old new R l vs w)(hl:∀j,j ∈ l↔j ∈ [0,1,2,3,4,5,6]):Below w1.heap.size w1 w/\vs 0=p0/\vs 1=n0/\vs 2=p2/\vs 3=n2/\∃g g',vs 4= .pointer (some ⟨g,0,none⟩)/\vs 5= .pointer (some ⟨g',0,none⟩)/\w1.heap.size<=g/\w1.heap.size<=g'/\g≠g'/\Bo w g new R/\Bo w g' old R:=by
 obtain⟨h1,h2,h3,h4,h5,h6,h7,h8,h9⟩:=h;have m4:=(hl 4).2 (by decide);have m5:=(hl 5).2 (by decide);have m6:=(hl 6).2 (by decide);obtain⟨g,e,hb,X0,_⟩:=h7 m4;obtain⟨g',e',hb',X'⟩:=h8 m5;have X:=X0 m6
 exact⟨h1,h3 ((hl 0).2 (by decide)),h4 ((hl 1).2 (by decide)),h5 ((hl 2).2 (by decide)),h6 ((hl 3).2 (by decide)),g,g',e,e',hb,hb',fun c=>h9 m4 m5 (by rw[e,e',c]),X,X'⟩
end
def Pair (w1:World)(F:List Fact)(p q s e:Nat)(old:Array Value)(R:TypeId)(l:List Nat)(vs:Nat->Value)(w:World):Prop:=
 Below w1.heap.size w1 w/\(∀j ∈ l,∀u,phi F j (vs j) u)/\(s ∈ l->p ∈ l/\q ∈ l/\e ∈ l)/\
  (p ∈ l->∃g,vs p= .pointer (some ⟨g,0,none⟩)/\w1.heap.size<=g/\(s ∉ l->Bo w g old R)/\(s ∈ l->∃cs,vs e= .agg cs/\Bo w g cs R))/\
  (q ∈ l->∃g,vs q= .pointer (some ⟨g,0,none⟩)/\w1.heap.size<=g/\Bo w g old R)/\(p ∈ l->q ∈ l->vs p≠vs q)
section
variable {w1 w w':World} {F:List Fact} {p q s e i:Nat} {l:List Nat} {vs:Nat->Value} {v:Value} {cs old:Array Value} {R:TypeId}
theorem Pair.nil:Pair w1 F p q s e old R [] (fun _=>undef) w1.drew:=⟨(br _ _).drew,by simp,by simp,by simp,by simp,by simp⟩
theorem far{g h:Nat}(hg:g < h):(.pointer (some ⟨h,0,none⟩):Value)≠ .pointer (some ⟨g,0,none⟩):=by
 intro c
 injection c with c
 injection c with c
 injection c with c
 omega
theorem Pair.all (h:Pair w1 F p q s e old R l vs w)(mp:p ∈ l)(mq:q ∈ l)(ms:s ∈ l):∃g g' cs,vs p= .pointer (some ⟨g,0,none⟩)/\vs q= .pointer (some ⟨g',0,none⟩)/\w1.heap.size<=g/\w1.heap.size<=g'/\g≠g'/\vs e= .agg cs/\Bo w g cs R/\Bo w g' old R:=by
 obtain⟨h1,h2,h3,h4,h5,h6⟩:=h;obtain⟨g,e1,e2,_,e3⟩:=h4 mp;obtain⟨cs,e4,e5⟩:=e3 ms;obtain⟨g',f1,f2,f3⟩:=h5 mq
 exact⟨g,g',cs,e1,f1,e2,f2,fun c=>h6 mp mq (by rw[e1,f1,c]),e4,e5,f3⟩
end
section
variable {P:Program} {ops:Array Oper} {Q:Exit->Act->World->Prop} {a0:Act} {T:List Nat} {ds:List (Option Tmp)} {ls:List (List Nat)} {k:Nat} {F:List Fact} {w1:World} {p q s e:Nat} {old:Array Value} {R:TypeId}
end
def Twin (w1:World)(F:List Fact)(p q:Nat)(old:Array Value)(R:TypeId)(l:List Nat)(vs:Nat->Value)(w:World):Prop:=
 Below w1.heap.size w1 w/\(∀j ∈ l,phi F j (vs j) w)/\
  (p ∈ l->∃g,vs p= .pointer (some ⟨g,0,none⟩)/\w1.heap.size<=g/\Bo w g old R)/\
  (q ∈ l->∃g,vs q= .pointer (some ⟨g,0,none⟩)/\w1.heap.size<=g/\Bo w g old R)/\(p ∈ l->q ∈ l->vs p≠vs q)
section
variable {w1 w w':World} {F:List Fact} {p q i:Nat} {l:List Nat} {vs:Nat->Value} {v:Value} {old:Array Value} {R:TypeId}
theorem Twin.nil:Twin w1 F p q old R [] (fun _=>undef) w1.drew:=⟨(br _ _).drew,by simp,by simp,by simp,by simp⟩
theorem Twin.all (h:Twin w1 F p q old R l vs w)(mp:p ∈ l)(mq:q ∈ l):∃g g',vs p= .pointer (some ⟨g,0,none⟩)/\vs q= .pointer (some ⟨g',0,none⟩)/\w1.heap.size<=g/\w1.heap.size<=g'/\g≠g'/\Bo w g old R/\Bo w g' old R:=by
 obtain⟨h1,h2,h4,h5,h6⟩:=h;obtain⟨g,e1,e2,e3⟩:=h4 mp;obtain⟨g',f1,f2,f3⟩:=h5 mq
 exact⟨g,g',e1,f1,e2,f2,fun c=>h6 mp mq (by rw[e1,f1,c]),e3,f3⟩
end
section
variable {P:Program} {ops:Array Oper} {Q:Exit->Act->World->Prop} {a0:Act} {T:List Nat} {ds:List (Option Tmp)} {ls:List (List Nat)} {k:Nat} {F:List Fact} {w1:World} {p q:Nat} {old:Array Value} {R:TypeId}
