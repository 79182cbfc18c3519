/-
 Contracts that the proof rests on.
-/
import Derived.IntWalk
import Derived.Test.YtomikokonmikgaaGreatDoorYBag
namespace Go.Proofs.YtomikokonmikgaaGreatDoor
set_option maxHeartbeats 1000000
open Go.RowKit
set_option linter.unusedVariables false
theorem sg_cases (s:Bool)(a:Nat):(a=0/\cmpI (sg s a) 0=0)\/(0 < a/\s=true/\cmpI (sg s a) 0= -1)\/(0 < a/\s=false/\cmpI (sg s a) 0=1):=by
 rcases Nat.eq_zero_or_pos a with e | e
 ·subst e;exact .inl ⟨rfl,by rw[sg_zero];exact cmpI_eq rfl⟩
 ·cases s
  ·exact .inr (.inr ⟨e,rfl,cmpI_gt (by simp[sg];omega)⟩)
  ·exact .inr (.inl ⟨e,rfl,cmpI_lt (by simp[sg];omega)⟩)
theorem wSign{w:World}{A:Option Addr}{n c:Nat}{s:Bool}{x r:Int}(h:Wr w s A n c x)(hr:cmpI x 0=r):Calls Tryz.prog 122 #[.agg #[.bool s,.slice A n c]] w (PI w r):=by
 obtain⟨a,h,e1⟩:=h;subst e1
 have hb:blen a<=35184372088832:=by have:=h.blen_le;have:=h.big;omega
 rcases sg_cases s a with⟨rfl,e⟩ | ⟨ha,rfl,e⟩ | ⟨ha,rfl,e⟩
 ·rw[e]at hr;subst hr;clear e hb
  go_enter Tryz.func122,Tryz.ntmps122
  go_wp2_with (first
   | (go_at_call 188;((with_reducible refine(vLenE (z:=0) (h.below (bel1 _ _)) rfl).mono ?_);rintro e w1 ⟨rfl,B1⟩)))
  go_ret
  exact⟨rfl,bt (bel1 _ _) B1⟩
 all_goals
  rw[e]at hr;subst hr
  have hz:((blen a:Nat):Int)≠0:=by have:=blen_eq_zero (a:=a);omega
  have hq:(((blen a:Nat):Int)==0)=false:=by simpa using hz
  clear e hz
  go_enter Tryz.func122,Tryz.ntmps122
  go_wp2_with (first
   | (go_at_call 188;((with_reducible refine(vLen (h.below (bel1 _ _))).mono ?_);rintro e w1 ⟨rfl,B1⟩;obtain⟨hc,hf⟩:=bcell B1)))
  go_ret
  exact⟨rfl,bt (bel1 _ _) B1⟩
theorem cmp_signs{x y:Int}(h:cmpI x 0≠cmpI y 0):cmpI (cmpI x 0) (cmpI y 0)=cmpI x y:=by
 unfold cmpI at h|-
 split <;> split <;> split <;> (try split) <;> (try split) <;> (try split) <;> simp_all <;> omega
theorem cmp_same{s t:Bool}{a b:Nat}(h:cmpI (sg s a) 0=cmpI (sg t b) 0):cmpI (sg s a) 0*cmpI (a:Int) (b:Int)=cmpI (sg s a) (sg t b):=by
 rcases sg_cases s a with⟨rfl,e⟩ | ⟨ha,rfl,e⟩ | ⟨ha,rfl,e⟩ <;> rcases sg_cases t b with⟨rfl,e'⟩ | ⟨hb,rfl,e'⟩ | ⟨hb,rfl,e'⟩ <;> rw[e,e']at h <;> first | (exfalso;revert h;decide) | skip
 ·rw[e,sg_zero,sg_zero,Int.zero_mul];exact(cmpI_eq rfl).symm
 ·rw[e]
  rcases Nat.lt_trichotomy a b with q | q | q
  ·rw[cmpI_lt (by omega),cmpI_gt (by simp[sg];omega)];rfl
  ·subst q;rw[cmpI_self,cmpI_eq rfl];rfl
  ·rw[cmpI_gt (by omega),cmpI_lt (by simp[sg];omega)];rfl
 ·rw[e]
  rcases Nat.lt_trichotomy a b with q | q | q
  ·rw[cmpI_lt (by omega),cmpI_lt (by simp[sg];omega)];rfl
  ·subst q;rw[cmpI_self,cmpI_eq rfl];rfl
  ·rw[cmpI_gt (by omega),cmpI_gt (by simp[sg];omega)];rfl
theorem wCmp{w:World}{A B:Option Addr}{n c m d:Nat}{s t:Bool}{x y r:Int}(h:Wr w s A n c x)(k:Wr w t B m d y)(hr:cmpI x y=r):
  Calls Tryz.prog 56 #[.agg #[.bool s,.slice A n c],.agg #[.bool t,.slice B m d]] w (PI w r):=by
 obtain⟨a,h',e1⟩:=id h;obtain⟨b,k',e2⟩:=id k;have b1:=cmpI_bd x 0;have b2:=cmpI_bd y 0;have b3:=cmpI_bd a b
 by_cases hs:cmpI x 0=cmpI y 0
 ·have HM:Hid (cmpI x 0*cmpI (a:Int) (b:Int)=r):=Lib.hid (by rw[<-hr,<-e1,<-e2];exact cmp_same (by rw[e1,e2];exact hs))
  have HX:=Lib.hid (rfl:cmpI x 0=cmpI x 0);have HY:=Lib.hid hs.symm;have HZ:=Lib.hid (rfl:cmpI (a:Int) (b:Int)=cmpI (a:Int) (b:Int));clear hr e1 e2 hs b2
  revert b1 b3 HM HX HY HZ
  generalize hp:cmpI x 0=p;generalize hq:cmpI (a:Int) (b:Int)=q
  intro b1 b3 HM HX HY HZ
  have HP:=Lib.hid hp;have HQ:=Lib.hid hq;clear hp hq HX HZ
  have hb: -1<=p*q/\p*q<=1:=by
   rcases (by omega:p= -1\/p=0\/p=1)with rfl | rfl | rfl <;> omega
  obtain⟨hb1,hb2⟩:=hb;obtain⟨b11,b12⟩:=b1;obtain⟨b31,b32⟩:=b3
  have hw:IntKind.i64.wrap (p*q)=p*q:=IntWalk.i64_in _ (by omega)
  have hpp:(p !=p)=false:=by simp
  go_enter Tryz.func56,Tryz.ntmps56
  go_wp2_with (first
   | (go_at_call 122;((with_reducible refine(wSign (h.below (bel2 _ _ _)) HP.out).mono ?_);rintro e w1 ⟨rfl,B1⟩;obtain⟨hc,hf⟩:=bcell B1))
   | (go_at_call 122;((with_reducible refine(wSign (k.below (bt (bel2 _ _ _) B1)) HY.out).mono ?_);rintro e w2 ⟨rfl,B2⟩;clear hc hf;obtain⟨hc,hf⟩:=bcell (bt B1 B2)))
   | (go_at_call 123;((with_reducible refine(vCmpE (h'.below (bt (bel2 _ _ _) (bt B1 B2))) (k'.below (bt (bel2 _ _ _) (bt B1 B2))) HQ.out).mono ?_);rintro e w3 ⟨rfl,B3⟩)))
  go_ret
  exact⟨ret_int HM.out,bt (bel2 _ _ _) (bt B1 (bt B2 B3))⟩
 ·have HM:Hid (cmpI (cmpI x 0) (cmpI y 0)=r):=Lib.hid (by rw[<-hr];exact cmp_signs hs)
  have HX:=Lib.hid (rfl:cmpI x 0=cmpI x 0);clear hr e1 e2 b3
  revert b1 b2 HM hs
  generalize hp:cmpI x 0=p;generalize hq:cmpI y 0=q
  intro b1 b2 hs HM
  have HP:=Lib.hid hp;have HQ:=Lib.hid hq;clear hp hq HX;obtain⟨b11,b12⟩:=b1;obtain⟨b31,b32⟩:=b2
  have hne:(p !=q)=true:=by simpa using hs
  have HS:=Lib.hid hs;clear hs
  go_enter Tryz.func56,Tryz.ntmps56
  go_wp2_with (first
   | (go_at_call 122;((with_reducible refine(wSign (h.below (bel2 _ _ _)) HP.out).mono ?_);rintro e w1 ⟨rfl,B1⟩;obtain⟨hc,hf⟩:=bcell B1))
   | (go_at_call 122;((with_reducible refine(wSign (k.below (bt (bel2 _ _ _) B1)) HQ.out).mono ?_);rintro e w2 ⟨rfl,B2⟩;clear hc hf;obtain⟨hc,hf⟩:=bcell (bt B1 B2)))
   | (go_at_call 110;((with_reducible refine(compareInt_any _ _ _).mono ?_);rintro e w3 ⟨rfl,rfl⟩)))
  go_ret
  exact⟨ret_int HM.out,bt (bel2 _ _ _) (bt B1 B2)⟩
theorem cmpI_zero{x y:Int}:cmpI x y=0↔x=y:=by unfold cmpI;split <;> (try split) <;> omega
theorem two_rd (W:World){g k:Nat}{X Y:Int}(hg:W.heap.size=g)(hX:X=((k%4294967296:Nat):Int))(hY:Y=((k/4294967296:Nat):Int))(hk:k < 18446744073709551616):
  Rd (W.alloc (.cells #[.int .u32 X,.int .u32 Y] 92)) (some ⟨g,0,none⟩) 2 2 k:=by
 subst hg;subst hX;subst hY;exact⟨_,_,lit2 W _ _ (Nat.mod_lt _ (by decide)) (by omega),by simp[val];omega⟩
theorem u64_negneg (k:Nat)(h:k<=9223372036854775808):IntKind.u64.wrap (-IntKind.u64.wrap (-(k:Int)))=k:=by
 simp[IntKind.wrap,IntKind.signed,IntKind.bits]
 omega
theorem from_pos (k:Nat)(w:World)(h:k < 9223372036854775808):Calls Tryz.prog 55 #[.int .i64 (k:Int)] w (W1 w 2 (k:Int)):=by
 have hd:decide ((k:Int) < 0)=false:=by simp
 go_enter Tryz.func55,Tryz.ntmps55
 go_wp2_with (first
  | (go_at_call 58;((with_reducible refine(wMake false (two_rd _ (by simp) (k:=k) (by omega) (by omega) (by omega))).mono ?_);rintro e w2 ⟨s2,A2,n2,c2,rfl,h2,k2,B2⟩;obtain⟨hc,hf⟩:=bcell B2)))
 have X:Bx w2 w.heap.size false none 0 0:=((Bx.new w false none 0 0).below (bel1 _ _)).below B2
 exact bodyPost_ret (v:= .agg #[.bool s2,.slice A2 n2 c2]) (by simp[results,Tryz.results55,go_sem,X.cell0,X.cell1]) rfl ⟨s2,A2,n2,c2,rfl,h2.st X _ _,by omega,st2 (bt (bel2 _ _ _) B2) (Nat.le_refl _) _ _⟩
theorem from_neg (k:Nat)(w:World)(h:k<=9223372036854775808)(h0:0 < k):Calls Tryz.prog 55 #[.int .i64 (-(k:Int))] w (W1 w 2 (-(k:Int))):=by
 have hlt: -(k:Int) < 0:=by omega
 have hw:=u64_negneg k h
 go_enter Tryz.func55,Tryz.ntmps55
 go_wp2_with (first
  | (go_at_call 58;((with_reducible refine(wMake true (two_rd _ (by simp) (k:=k) (by clear hw;omega) (by clear hw;omega) (by clear hw;omega))).mono ?_);rintro e w2 ⟨s2,A2,n2,c2,rfl,h2,k2,B2⟩;obtain⟨hc,hf⟩:=bcell B2)))
 have X:Bx w2 w.heap.size false none 0 0:=((Bx.new w false none 0 0).below (bel1 _ _)).below B2
 exact bodyPost_ret (v:= .agg #[.bool s2,.slice A2 n2 c2]) (by simp[results,Tryz.results55,go_sem,X.cell0,X.cell1]) rfl ⟨s2,A2,n2,c2,rfl,h2.st X _ _,by omega,st2 (bt (bel2 _ _ _) B2) (Nat.le_refl _) _ _⟩
theorem wFrom (z:Int)(w:World)(h1: -9223372036854775808<=z)(h2:z<=9223372036854775807):Calls Tryz.prog 55 #[.int .i64 z] w (W1 w 2 z):=by
 rcases Int.lt_or_le z 0 with h | h
 ·have:=from_neg z.natAbs w (by omega) (by omega)
  rwa [show -((z.natAbs:Nat):Int)=z by omega]at this
 ·have:=from_pos z.natAbs w (by omega)
  rwa [show ((z.natAbs:Nat):Int)=z by omega]at this
def prd (l:List Int):Int:=l.foldl (· * ·) 1
theorem prd_take{l:List Int}{k:Nat}(h:k < l.length):prd (l.take (k+1))=prd (l.take k)*l.getD k 0:=by
 unfold prd
 rw[List.take_succ_eq_append_getElem h,List.foldl_append]
 simp[List.getD_eq_getElem?_getD,h]
theorem sg_mul (s t:Bool)(a b:Nat):sg (s !=t) (a*b)=sg s a*sg t b:=by
 cases s <;> cases t <;> simp[sg,Int.neg_mul,Int.mul_neg]
def Wl (w:World)(A:Option Addr)(n c K:Nat)(zs:List Int):Prop:=
 zs.length=n/\n<=c/\n<=1099511627776/\(0 < n->∃b o,A=some ⟨b,o,none⟩/\∀k,k < n->∃s B m d,w.cell? ⟨b,o+k*2,none⟩=some (.bool s)/\w.cell? ⟨b,o+k*2+1,none⟩=some (.slice B m d)/\Wr w s B m d (zs.getD k 0)/\m<=K)
theorem Wl.below{w w':World}{A:Option Addr}{n c K:Nat}{zs:List Int}(h:Wl w A n c K zs)(hb:Below w.heap.size w w'):Wl w' A n c K zs:=by
 obtain⟨h1,h2,h3,h4⟩:=h
 refine⟨h1,h2,h3,fun hn=>?_⟩
 obtain⟨b,o,e,hc⟩:=h4 hn
 refine⟨b,o,e,fun k hk=>?_⟩
 obtain⟨s,B,m,d,c0,c1,hw,hm⟩:=hc k hk;exact⟨s,B,m,d,(hb.cell (p:=⟨b,_,none⟩) (block_lt_of_cell c0)).trans c0,(hb.cell (p:=⟨b,_,none⟩) (block_lt_of_cell c1)).trans c1,hw.below hb,hm⟩
abbrev Wl.b:= @Wl.below
def WMulInv (w0:World)(K:Nat)(zs:List Int)(k:Nat)(s:Bool)(A:Option Addr)(n c:Nat)(wr:World):Prop:=Below w0.heap.size w0 wr/\∃a,Nm wr A n c a/\sg s a=prd (zs.take k)/\n<=1+k*K
theorem one_nm (W:World):Nm (W.alloc (.cells #[.int .u32 1] 92)) (some ⟨W.heap.size,0,none⟩) 1 1 1:=⟨_,by rw[show limbs 1=[1] by rw[limbs_pos (by decide)];simp[limbs_zero]];exact one_limb W⟩
theorem wMul{w:World}{A:Option Addr}{n c K:Nat}{zs:List Int}{r:Int}(h:Wl w A n c K zs)(hK:1+n*K<=1073741824)(hr:prd zs=r):Calls Tryz.prog 54 #[.slice A n c] w (W1 w (1+n*K) r):=by
 have hcap:=h.2.1;have hbig:=h.2.2.1
 go_enter Tryz.func54,Tryz.ntmps54
 go_wp2
 go_loopw [3,4,10] (fun u m i wr=>∃(k:Nat) (s:Bool) (B:Option Addr) (p d:Nat),k<=n/\i= .int .i64 k/\u= .bool s/\m= .slice B p d/\WMulInv ((w.alloc (.cells #[.bool false,.slice none 0 0] 27)).alloc (.cells #[.int .u32 1] 92)) K zs k s B p d wr) (fun _ _ i _=>n-(intOf i).toNat)
 case atStart=>exact ⟨0,false,_,1,1,Nat.zero_le _,rfl,rfl,rfl,Below.refl _ _,1,by first | exact one_nm _ | (have:=one_nm (w.alloc (.cells #[.bool false,.slice none 0 0] 27));simpa using this),rfl,by omega⟩
 case round=>
  obtain⟨k,s,B,p,d,hk,rfl,rfl,rfl,hI⟩:=hrel;have HI:=Lib.hid hI;clear hI
  by_cases hlt:k < n
  ·obtain⟨hB,a,ha,hs,hp⟩:=HI.out;have hl:=h.below (bt (bel2 _ _ _) hB);obtain⟨b,o,rfl,hcell⟩:=hl.2.2.2 (by omega);obtain⟨t,D,q,e,c0,c1,hw,hq⟩:=hcell k hlt;clear hcell hl;have HS:=Lib.hid hs;clear hs;have hbl:=block_lt_of_cell c0
   have hne:b≠wr.heap.size:=by
    have:b < wr.heap.size:=hbl
    omega
   have hnk:n*K=(n-k-1)*K+(k*K+K):=by
    rw[<-Nat.succ_mul,<-Nat.add_mul];congr 1;omega
   have hp2:p<=1073741824:=by omega
   have hq2:q<=1073741824:=by omega
   have HNK:=Lib.hid hnk;clear hnk
   go_wp2_with (first
    | (go_at_call 120;((with_reducible refine(vMul (ha.rd.below (bel1 _ _)) (hw.rd.below (bel1 _ _)) hp2 hq2).mono ?_);rintro e w3 ⟨A3,n3,c3,rfl,h3,k3,B3⟩)))
   go_roundw
   case rel=>
    refine⟨k+1,(s !=t),A3,n3,c3,by omega,by go_num,rfl,rfl,bt hB (bt (bel1 _ _) B3),_,h3,?_,by rw[Nat.succ_mul];omega⟩
    rw[prd_take (by rw[h.1];exact hlt),sg_mul,HS.out,hw.eq]
   case measure=>simp [intOf];omega
  ·obtain rfl:k=n:=by omega
   obtain⟨hB,a,ha,hs,hp⟩:=HI.out
   have HS:Hid (sg s a=r):=Lib.hid (by rw[hs,<-hr,List.take_of_length_le (by rw[h.1];omega)])
   clear hs hr
   go_wp2_with (first
    | (go_at_call 121;((with_reducible refine(wSigned s ha).mono ?_);rintro e w2 ⟨s2,A2,n2,c2,rfl,h2,k2,B2⟩;obtain⟨hc,hf⟩:=bcell (bt hB B2))))
   have X:Bx w2 w.heap.size false none 0 0:=(((Bx.new w false none 0 0).below (bel1 _ _)).below hB).below B2
   exact bodyPost_ret (v:= .agg #[.bool s2,.slice A2 n2 c2]) (by simp[results,Tryz.results54,go_sem,X.cell0,X.cell1]) rfl ⟨s2,A2,n2,c2,rfl,HS.out▸h2.st X _ _,by omega,st2 (bt (bel2 _ _ _) (bt hB B2)) (Nat.le_refl _) _ _⟩
def fits (z:Int):Bool:=decide (-9223372036854775808<=z/\z<=9223372036854775807)
