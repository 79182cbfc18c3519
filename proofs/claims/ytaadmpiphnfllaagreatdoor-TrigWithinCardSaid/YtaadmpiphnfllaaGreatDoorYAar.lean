/-
 Contracts that the proof rests on.
-/
import Derived.Test.YtaadmpiphnfllaaGreatDoorYAaq
namespace Go.Proofs.YtaadmpiphnfllaaGreatDoor
set_option maxHeartbeats 4000000
open Go.RowKit
set_option linter.unusedVariables false
set_option linter.unusedSimpArgs false
set_option maxRecDepth 100000
theorem len64_111 (z:Int)(q:Nat)(w:World)(h0:0≤z)(hz:z≤18446744073709551615)(h1:4294967296≤z)(h2:65536≤z/4294967296)(h3:256≤z/4294967296/65536)(hq:q≤8)
  (hi:∀W,(Instr.index 9 (.string Lib.len8tab) (.int .u8 (z/4294967296/65536/256))).run Tryz.prog W= .ok (.int .u8 (q:Int)) W):
  Calls Tryz.prog 125 #[.int .u64 z] w fun e w'=>e= .returned (.int .i64 (56+q:Int))∧w=w':=by
 go_enter Tryz.func125,Tryz.ntmps125
 go_wp2
 go_ret
 exact⟨rfl,rfl⟩
theorem len64_110 (z:Int)(q:Nat)(w:World)(h0:0≤z)(hz:z≤18446744073709551615)(h1:4294967296≤z)(h2:65536≤z/4294967296)(h3:z/4294967296/65536 < 256)(hq:q≤8)
  (hi:∀W,(Instr.index 9 (.string Lib.len8tab) (.int .u8 (z/4294967296/65536))).run Tryz.prog W= .ok (.int .u8 (q:Int)) W):
  Calls Tryz.prog 125 #[.int .u64 z] w fun e w'=>e= .returned (.int .i64 (48+q:Int))∧w=w':=by
 go_enter Tryz.func125,Tryz.ntmps125
 go_wp2
 go_ret
 exact⟨rfl,rfl⟩
theorem len64_101 (z:Int)(q:Nat)(w:World)(h0:0≤z)(hz:z≤18446744073709551615)(h1:4294967296≤z)(h2:z/4294967296 < 65536)(h3:256≤z/4294967296)(hq:q≤8)
  (hi:∀W,(Instr.index 9 (.string Lib.len8tab) (.int .u8 (z/4294967296/256))).run Tryz.prog W= .ok (.int .u8 (q:Int)) W):
  Calls Tryz.prog 125 #[.int .u64 z] w fun e w'=>e= .returned (.int .i64 (40+q:Int))∧w=w':=by
 go_enter Tryz.func125,Tryz.ntmps125
 go_wp2
 go_ret
 exact⟨rfl,rfl⟩
theorem len64_100 (z:Int)(q:Nat)(w:World)(h0:0≤z)(hz:z≤18446744073709551615)(h1:4294967296≤z)(h2:z/4294967296 < 65536)(h3:z/4294967296 < 256)(hq:q≤8)
  (hi:∀W,(Instr.index 9 (.string Lib.len8tab) (.int .u8 (z/4294967296))).run Tryz.prog W= .ok (.int .u8 (q:Int)) W):
  Calls Tryz.prog 125 #[.int .u64 z] w fun e w'=>e= .returned (.int .i64 (32+q:Int))∧w=w':=by
 go_enter Tryz.func125,Tryz.ntmps125
 go_wp2
 go_ret
 exact⟨rfl,rfl⟩
theorem len64_011 (z:Int)(q:Nat)(w:World)(h0:0≤z)(hz:z≤18446744073709551615)(h1:z < 4294967296)(h2:65536≤z)(h3:256≤z/65536)(hq:q≤8)
  (hi:∀W,(Instr.index 9 (.string Lib.len8tab) (.int .u8 (z/65536/256))).run Tryz.prog W= .ok (.int .u8 (q:Int)) W):
  Calls Tryz.prog 125 #[.int .u64 z] w fun e w'=>e= .returned (.int .i64 (24+q:Int))∧w=w':=by
 go_enter Tryz.func125,Tryz.ntmps125
 go_wp2
 go_ret
 exact⟨rfl,rfl⟩
theorem len64_010 (z:Int)(q:Nat)(w:World)(h0:0≤z)(hz:z≤18446744073709551615)(h1:z < 4294967296)(h2:65536≤z)(h3:z/65536 < 256)(hq:q≤8)
  (hi:∀W,(Instr.index 9 (.string Lib.len8tab) (.int .u8 (z/65536))).run Tryz.prog W= .ok (.int .u8 (q:Int)) W):
  Calls Tryz.prog 125 #[.int .u64 z] w fun e w'=>e= .returned (.int .i64 (16+q:Int))∧w=w':=by
 go_enter Tryz.func125,Tryz.ntmps125
 go_wp2
 go_ret
 exact⟨rfl,rfl⟩
theorem len64_001 (z:Int)(q:Nat)(w:World)(h0:0≤z)(hz:z≤18446744073709551615)(h1:z < 4294967296)(h2:z < 65536)(h3:256≤z)(hq:q≤8)
  (hi:∀W,(Instr.index 9 (.string Lib.len8tab) (.int .u8 (z/256))).run Tryz.prog W= .ok (.int .u8 (q:Int)) W):
  Calls Tryz.prog 125 #[.int .u64 z] w fun e w'=>e= .returned (.int .i64 (8+q:Int))∧w=w':=by
 go_enter Tryz.func125,Tryz.ntmps125
 go_wp2
 go_ret
 exact⟨rfl,rfl⟩
theorem len64_000 (z:Int)(q:Nat)(w:World)(h0:0≤z)(hz:z≤18446744073709551615)(h1:z < 4294967296)(h2:z < 65536)(h3:z < 256)(hq:q≤8)
  (hi:∀W,(Instr.index 9 (.string Lib.len8tab) (.int .u8 (z))).run Tryz.prog W= .ok (.int .u8 (q:Int)) W):
  Calls Tryz.prog 125 #[.int .u64 z] w fun e w'=>e= .returned (.int .i64 (0+q:Int))∧w=w':=by
 go_enter Tryz.func125,Tryz.ntmps125
 go_wp2
 go_ret
 exact⟨ret_int (by omega),rfl⟩
theorem len64_any (x:Nat)(hx:x < 18446744073709551616)(w:World):
  Calls Tryz.prog 125 #[.int .u64 (x:Int)] w fun e w'=>e= .returned (.int .i64 (blen x:Int))∧w=w':=by
 by_cases h0:4294967296≤x
 ·have s0:=blen_shift (x) 32 (by omega)
  rw [show 2^32=4294967296 by decide]at s0
  by_cases h1:65536≤x/4294967296
  ·have s1:=blen_shift (x/4294967296) 16 (by omega)
   rw [show 2^16=65536 by decide]at s1
   by_cases h2:256≤x/4294967296/65536
   ·have s2:=blen_shift (x/4294967296/65536) 8 (by omega)
    rw [show 2^8=256 by decide]at s2
    have:=len64_111 (x:Int) (blen (x/4294967296/65536/256)) w (by omega) (by omega) (by omega) (by omega) (by omega) (blen_mono_le (by omega)) (fun W=>index_len8 W (x/4294967296/65536/256) (by omega))
    exact this.mono fun e w' h=>⟨h.1.trans (ret_int (by omega)),h.2⟩
   ·have:=len64_110 (x:Int) (blen (x/4294967296/65536)) w (by omega) (by omega) (by omega) (by omega) (by omega) (blen_mono_le (by omega)) (fun W=>index_len8 W (x/4294967296/65536) (by omega))
    exact this.mono fun e w' h=>⟨h.1.trans (ret_int (by omega)),h.2⟩
  ·by_cases h2:256≤x/4294967296
   ·have s2:=blen_shift (x/4294967296) 8 (by omega)
    rw [show 2^8=256 by decide]at s2
    have:=len64_101 (x:Int) (blen (x/4294967296/256)) w (by omega) (by omega) (by omega) (by omega) (by omega) (blen_mono_le (by omega)) (fun W=>index_len8 W (x/4294967296/256) (by omega))
    exact this.mono fun e w' h=>⟨h.1.trans (ret_int (by omega)),h.2⟩
   ·have:=len64_100 (x:Int) (blen (x/4294967296)) w (by omega) (by omega) (by omega) (by omega) (by omega) (blen_mono_le (by omega)) (fun W=>index_len8 W (x/4294967296) (by omega))
    exact this.mono fun e w' h=>⟨h.1.trans (ret_int (by omega)),h.2⟩
 ·by_cases h1:65536≤x
  ·have s1:=blen_shift (x) 16 (by omega)
   rw [show 2^16=65536 by decide]at s1
   by_cases h2:256≤x/65536
   ·have s2:=blen_shift (x/65536) 8 (by omega)
    rw [show 2^8=256 by decide]at s2
    have:=len64_011 (x:Int) (blen (x/65536/256)) w (by omega) (by omega) (by omega) (by omega) (by omega) (blen_mono_le (by omega)) (fun W=>index_len8 W (x/65536/256) (by omega))
    exact this.mono fun e w' h=>⟨h.1.trans (ret_int (by omega)),h.2⟩
   ·have:=len64_010 (x:Int) (blen (x/65536)) w (by omega) (by omega) (by omega) (by omega) (by omega) (blen_mono_le (by omega)) (fun W=>index_len8 W (x/65536) (by omega))
    exact this.mono fun e w' h=>⟨h.1.trans (ret_int (by omega)),h.2⟩
  ·by_cases h2:256≤x
   ·have s2:=blen_shift (x) 8 (by omega)
    rw [show 2^8=256 by decide]at s2
    have:=len64_001 (x:Int) (blen (x/256)) w (by omega) (by omega) (by omega) (by omega) (by omega) (blen_mono_le (by omega)) (fun W=>index_len8 W (x/256) (by omega))
    exact this.mono fun e w' h=>⟨h.1.trans (ret_int (by omega)),h.2⟩
   ·have:=len64_000 (x:Int) (blen (x)) w (by omega) (by omega) (by omega) (by omega) (by omega) (blen_mono_le (by omega)) (fun W=>index_len8 W (x) (by omega))
    exact this.mono fun e w' h=>⟨h.1.trans (ret_int (by omega)),h.2⟩
theorem lead64_any{x:Nat}{z a:Int}(w:World)(hx:x < 18446744073709551616)(hz:(x:Int)=z)(ha:64-(blen x:Int)=a):
  Calls Tryz.prog 67 #[.int .u64 z] w (PI w a):=by
 have hb:=blen_mono_le (n:=x) (k:=64) hx;subst hz;subst ha
 go_enter Tryz.func67,Tryz.ntmps67
 go_wp2_with (go_at_call 125;refine (len64_any x hx _).mono ?_;rintro e w' ⟨rfl,rfl⟩)
 go_ret
 exact⟨rfl,Below.refl _ _⟩
theorem of_fq{n:Int}(h0:n≠0)(h1: -9223372036854775808≤n)(h2:n≤9223372036854775807):Fq 1 (decide (n < 0)) ((tp n.natAbs:Nat):Int) (-(64-(blen n.natAbs:Int))) (sgi (decide (n < 0)) (lo n.natAbs 0)):=by
 have hm:n.natAbs≠0:=by omega
 have a1:=tp_ge hm;have a2:=tp_lt n.natAbs;have a3:=blen_mono_le (n:=n.natAbs) (k:=64) (by omega);refine Fq.fin (by omega) (by omega) (by omega) (by omega) ?_
 congr 1
 unfold lo xp
 rw [if_neg hm,if_neg (by omega),if_neg (by omega)]
 omega
theorem of_shl{n:Int}(h0:n≠0)(h1: -9223372036854775808≤n)(h2:n≤9223372036854775807):(n.natAbs:Int)*2^(64-(blen n.natAbs:Int)).toNat=((tp n.natAbs:Nat):Int):=by
 have a3:=blen_mono_le (n:=n.natAbs) (k:=64) (by omega)
 rw [tp_small a3,show (64-(blen n.natAbs:Int)).toNat=64-blen n.natAbs by omega]
 push_cast
 rfl
theorem nOf{n r:Int}(w:World)(h1: -9223372036854775808≤n)(h2:n≤9223372036854775807)(hr:sgi (decide (n < 0)) (lo n.natAbs 0)=r):Calls Tryz.prog 24 #[.int .i64 n] w (PN w r):=by
 by_cases h0:n=0
 ·subst h0
  obtain rfl:0=r:=hr
  go_enter Tryz.func24,Tryz.ntmps24
  go_upto_region 1 with (fail)
  generalize hW1:w.alloc _=w1 at *;obtain⟨XR,HB⟩:=Bo.en1 hW1;clear hW1;have xXR:=XR.cell;have zXR0:=XR.frozen;go_wp2;clear xXR zXR0;have SX:=StN.mk4 XR (.int .i64 0) (.bool false) (.int .u64 0) (.int .i64 0);exact bodyPost_ret (by simp [results,Tryz.results24,go_sem,SX.box.cell]) rfl ⟨_,_,_,_,rfl,Fq.nought,(SX.below HB.out (by omega))⟩
 ·have HQ:=of_fq h0 h1 h2;have hs:=of_shl h0 h1 h2
  have e0:(n==0)=false:=by simpa using h0
  have hx:n.natAbs < 18446744073709551616:=by omega
  have hb:=blen_mono_le (n:=n.natAbs) (k:=64) (by omega);have t1:=tp_lt n.natAbs;rw [hr]at HQ;clear hr
  by_cases hs0:n < 0
  ·obtain⟨a,ha⟩:∃a,64-(blen n.natAbs:Int)=a:=⟨_,rfl⟩
   have hn:((n.natAbs:Nat):Int)= -n:=by omega
   rw [ha]at HQ hs;rw [hn]at hs
   have hd:decide (n < 0)=true:=by simp;omega
   rw [hd]at HQ;have HA:=Lib.hid ha;have HN:=Lib.hid hn;obtain⟨T,hT⟩:∃T,((tp n.natAbs:Nat):Int)=T:=⟨_,rfl⟩;rw [hT]at HQ hs
   have hT2:0≤T∧T < 18446744073709551616:=by omega
   have HS:=Lib.hid hs
   have HW:=Lib.hid (show IntKind.u64.wrap T=T from IntWalk.u64_in _ (by omega))
   have a1:0≤a:=by omega
   have hb0:blen n.natAbs≠0:=fun e=>h0 (by have:=blen_eq_zero.1 e;omega)
   have a2:a < 64:=by omega
   clear hb0;clear hs ha hb t1 hT hn hT2
   go_enter Tryz.func24,Tryz.ntmps24
   go_upto_region 1 with (fail)
   generalize hW1:w.alloc _=w1 at *;obtain⟨XR,HB⟩:=Bo.en1 hW1;clear hW1
   have hx1:n.natAbs < 18446744073709551616:=hx
   have hc:IntKind.u64.wrap (-IntKind.u64.wrap n)= -n:=by
    show (-(n%18446744073709551616))%18446744073709551616= -n
    omega
   go_wp2_with fail
   refine (lead64_any _ hx HN.out HA.out).mono ?_;rintro ee w2 ⟨rfl,B⟩;replace XR:=XR.below B;replace HB:=Hqb HB B;clear B;have hs:=HS.out;have hw:=HW.out;have xXR:=XR.cell;have zXR0:=XR.frozen;go_wp2;clear xXR zXR0;have SX:=StN.mk4 XR (.int .i64 1) (.bool true) (.int .u64 T) (.int .i64 (-a));exact bodyPost_ret (by simp [results,Tryz.results24,go_sem,SX.box.cell]) rfl ⟨_,_,_,_,rfl,HQ,(SX.below HB.out (by omega))⟩
  ·obtain⟨a,ha⟩:∃a,64-(blen n.natAbs:Int)=a:=⟨_,rfl⟩
   have hn:((n.natAbs:Nat):Int)=n:=by omega
   rw [ha]at HQ hs;rw [hn]at hs
   have hd:decide (n < 0)=false:=by simp;omega
   rw [hd]at HQ;have HA:=Lib.hid ha;have HN:=Lib.hid hn;obtain⟨T,hT⟩:∃T,((tp n.natAbs:Nat):Int)=T:=⟨_,rfl⟩;rw [hT]at HQ hs
   have hT2:0≤T∧T < 18446744073709551616:=by omega
   have HS:=Lib.hid hs
   have HW:=Lib.hid (show IntKind.u64.wrap T=T from IntWalk.u64_in _ (by omega))
   have a1:0≤a:=by omega
   have hb0:blen n.natAbs≠0:=fun e=>h0 (by have:=blen_eq_zero.1 e;omega)
   have a2:a < 64:=by omega
   clear hb0;clear hs ha hb t1 hT hn hT2
   go_enter Tryz.func24,Tryz.ntmps24
   go_upto_region 1 with (fail)
   generalize hW1:w.alloc _=w1 at *;obtain⟨XR,HB⟩:=Bo.en1 hW1;clear hW1
   have hx1:n.natAbs < 18446744073709551616:=hx
   go_wp2_with fail
   refine (lead64_any _ hx HN.out HA.out).mono ?_;rintro ee w2 ⟨rfl,B⟩;replace XR:=XR.below B;replace HB:=Hqb HB B;clear B;have hs:=HS.out;have hw:=HW.out;have xXR:=XR.cell;have zXR0:=XR.frozen;go_wp2;clear xXR zXR0;have SX:=StN.mk4 XR (.int .i64 1) (.bool false) (.int .u64 T) (.int .i64 (-a));exact bodyPost_ret (by simp [results,Tryz.results24,go_sem,SX.box.cell]) rfl ⟨_,_,_,_,rfl,HQ,(SX.below HB.out (by omega))⟩
def Nl (w:World)(A:Option Addr)(n c:Nat)(l:List Int):Prop:=
 l.length=n∧n≤c∧n≤1099511627776∧(0 < n→∃b o,A=some ⟨b,o,none⟩∧∀k,k < n→∃D s M E,w.cell? ⟨b,o+k*4,none⟩=some (.int .i64 D)∧w.cell? ⟨b,o+k*4+1,none⟩=some (.bool s)∧w.cell? ⟨b,o+k*4+2,none⟩=some (.int .u64 M)∧w.cell? ⟨b,o+k*4+3,none⟩=some (.int .i64 E)∧M < 18446744073709551616∧rk D s M E=l.getD k 0)
theorem Nl.below{w w':World}{A:Option Addr}{n c:Nat}{l:List Int}(h:Nl w A n c l)(hb:Below w.heap.size w w'):Nl w' A n c l:=by
 obtain⟨h1,h2,h3,h4⟩:=h
 refine⟨h1,h2,h3,fun hn=>?_⟩
 obtain⟨b,o,e,hc⟩:=h4 hn
 refine⟨b,o,e,fun k hk=>?_⟩
 obtain⟨D,s,M,E,c0,c1,c2,c3,hM,hr⟩:=hc k hk;exact⟨D,s,M,E,(hb.cell (p:=⟨b,_,none⟩) (block_lt_of_cell c0)).trans c0,(hb.cell (p:=⟨b,_,none⟩) (block_lt_of_cell c1)).trans c1,(hb.cell (p:=⟨b,_,none⟩) (block_lt_of_cell c2)).trans c2,(hb.cell (p:=⟨b,_,none⟩) (block_lt_of_cell c3)).trans c3,hM,hr⟩
def Jo.Fact.nl (n:Nat)(l:List Int):Jo.Fact:=⟨fun v w=>∃A c,v= .slice A n c∧Nl w A n c l,fun v w w' h b=>by
 obtain⟨A,c,e,h⟩:=h;exact⟨A,c,e,h.below b⟩⟩
def Jo.Fact.num (r:Int):Jo.Fact:=⟨fun v w=>∃K s M E,v= .agg #[.int .i64 K,.bool s,.int .u64 M,.int .i64 E]∧Fq K s M E r,fun v w w' h b=>h⟩
def mnp (l:List Int):Int:=l.foldl min TP
def mxp (l:List Int):Int:=l.foldl max (-TP)
theorem mnp_take{l:List Int}{k:Nat}(h:k < l.length):mnp (l.take (k+1))=min (mnp (l.take k)) (l.getD k 0):=by
 unfold mnp
 rw [List.take_succ_eq_append_getElem h,List.foldl_append]
 simp [List.getD_eq_getElem?_getD,h]
theorem mxp_take{l:List Int}{k:Nat}(h:k < l.length):mxp (l.take (k+1))=max (mxp (l.take k)) (l.getD k 0):=by
 unfold mxp
 rw [List.take_succ_eq_append_getElem h,List.foldl_append]
 simp [List.getD_eq_getElem?_getD,h]
def NInv (w:World)(g3:Nat)(r:Int)(wr:World):Prop:=
 ∃K s M E,Bo wr w.heap.size #[.int .i64 0,.bool false,.int .u64 0,.int .i64 0] 24∧Bo wr g3 #[.int .i64 K,.bool s,.int .u64 M,.int .i64 E] 24∧Fq K s M E r∧Below w.heap.size w wr
theorem nLeast{w:World}{A:Option Addr}{n c:Nat}{l:List Int}{r:Int}(h:Nl w A n c l)(hr:mnp l=r):Calls Tryz.prog 75 #[.slice A n c] w (PN w r):=by
 have HR:=Lib.hid hr;have HLn:=Lib.hid h.1;have hcap:=h.2.1;have hbig:=h.2.2.1;have hD0:=h;clear hr
 go_enter Tryz.func75,Tryz.ntmps75
 go_upto_region 1 with (fail)
 generalize hW1:w.alloc _=w1 at *;obtain⟨XR,HB⟩:=Bo.en1 hW1;replace h:=h.below HB.out;clear hW1
 go_wp2_with fail
 refine (nInf (s:=false) rfl).mono ?_;rintro ee w2 ⟨K1,s1,M1,E1,rfl,q1,B⟩;replace XR:=XR.below B;replace h:=h.below B;replace HB:=Hqb HB B;clear B
 go_upto_region 2 with (fail)
 have hg3:=XR.lt;have lX3:=Nat.le_refl (World.heap w2).size;have nX3XR:=XR.lt;generalize hWn:w2.alloc _=w3 at *;obtain⟨X3,BW⟩:=Bo.nw hWn;clear hWn;replace XR:=XR.below BW;replace h:=h.below BW;replace HB:=Hqb HB BW;clear BW
 go_wp2_with fail
 generalize w2.heap.size=g3 at *;clear h w1
 go_loopw [9] (fun i wr=>∃k:Nat,k≤n∧i= .int .i64 k∧NInv w g3 (mnp (l.take k)) wr) (fun i _=>n-(intOf i).toNat)
 case atStart=>exact ⟨0,Nat.zero_le _,rfl,_,_,_,_,XR,X3,q1,HB.out⟩
 case round=>
  obtain⟨k,hk,rfl,hI⟩:=hrel;obtain⟨K1,s1,M1,E1,XR,X3,q1,hB⟩:=hI;have HB:=Lib.hid hB;have h:=hD0.below hB;clear hB
  by_cases hlt:k < n
  ·obtain⟨b,o,rfl,hcell⟩:=h.2.2.2 (by omega);obtain⟨D,s,M,E,c0,c1,c2,c3,hM,hx⟩:=hcell k hlt;clear hcell h hD0;have ht:=mnp_take (l:=l) (k:=k) (by rw [HLn.out];exact hlt);rw [←hx]at ht;generalize mnp (l.take k)=R at *;obtain⟨x,hX⟩:∃x,rk D s M E=x:=⟨_,rfl⟩;rw [hX]at ht;have HX:=Lib.hid hX;have HT:=Lib.hid ht;obtain⟨z,hz⟩:∃z,cmpI x R=z:=⟨_,rfl⟩
   have HZ:=Lib.hid (show cmpI (rk D s M E) (rk K1 s1 M1 E1)=z by rw [hX,q1.rk];exact hz)
   clear ht hX hx
   have i1:(k:Int) < n:=by omega
   have i2:(0:Int)≤k:=by omega
   go_upto_region 5 with (fail)
   have hgd:=X3.lt;have lX5:=Nat.le_refl (World.heap wr).size;have nX5XR:=XR.lt;have nX5X3:=X3.lt;generalize hWn:wr.alloc _=w3 at *;obtain⟨X5,BW⟩:=Bo.nw hWn;clear hWn;replace XR:=XR.below BW;replace X3:=X3.below BW;replace HB:=Hqb HB BW;clear BW;clear c0 c1 c2 c3 lX5;have xX3:=X3.cell;have xX5:=X5.cell
   go_wp2_with fail
   refine (nCmp hM q1.top HZ.out).mono ?_;rintro ee w4 ⟨rfl,B⟩;clear xX3 xX5;replace XR:=XR.below B;replace X3:=X3.below B;replace X5:=X5.below B;replace HB:=Hqb HB B;clear B
   by_cases hb:x < R
   ·obtain rfl: -1=z:=by rw [←hz,cmpI_lt hb]
    have hT2:=HT.out
    rw [show min R x=x by omega]at hT2
    have xX5:=X5.cell
    go_wp2_with fail
    refine (nTaken hM HX.out).mono ?_;rintro ee w5 ⟨K2,s2,M2,E2,rfl,q2,B⟩;clear xX5;replace XR:=XR.below B;replace X3:=X3.below B;replace X5:=X5.below B;replace HB:=Hqb HB B;clear B;have xX3:=X3.cell;have zX30:=X3.frozen
    go_upto_region 7 with (fail)
    clear xX3 zX30;generalize hS:(((w5.setCell _ _).setCell _ _).setCell _ _).setCell _ _=w6 at *;have SX:=StN.of4 X3 hS;replace XR:=XR.stn SX (by omega);replace X5:=X5.stn SX (by omega);replace HB:=Hqs HB SX (by omega);replace X3:=SX.box;clear SX hS;go_wp2
    go_roundw
    case rel=>
     refine⟨k+1,by omega,by go_num,K2,s2,M2,E2,XR,X3,?_,HB.out⟩
     rw [hT2];exact q2
    case measure=>simp [intOf];omega
   ·have hT2:=HT.out
    rw [show min R x=R by omega]at hT2
    have hz0:¬z < 0:=by
     rw [←hz]
     rcases cmpI_tri x R with⟨a1,a2⟩ | ⟨a1,a2⟩ | ⟨a1,a2⟩ <;> rw [a2] <;> omega
    have e0:decide (z < 0)=false:=decide_eq_false hz0
    go_wp2
    go_roundw
    case rel=>
     refine⟨k+1,by omega,by go_num,K1,s1,M1,E1,XR,X3,?_,HB.out⟩
     rw [hT2];exact q1
    case measure=>simp [intOf];omega
  ·obtain rfl:k=n:=by omega
   rw [List.take_of_length_le (by rw [HLn.out];omega),HR.out]at q1;have xXR:=XR.cell;have zXR0:=XR.frozen;have xX3:=X3.cell;go_wp2;clear xXR zXR0 xX3;have SX:=StN.mk4 XR (.int .i64 K1) (.bool s1) (.int .u64 M1) (.int .i64 E1);exact bodyPost_ret (by simp [results,Tryz.results75,go_sem,SX.box.cell]) rfl ⟨_,_,_,_,rfl,q1,(SX.below HB.out (by omega))⟩
theorem nMost{w:World}{A:Option Addr}{n c:Nat}{l:List Int}{r:Int}(h:Nl w A n c l)(hr:mxp l=r):Calls Tryz.prog 74 #[.slice A n c] w (PN w r):=by
 have HR:=Lib.hid hr;have HLn:=Lib.hid h.1;have hcap:=h.2.1;have hbig:=h.2.2.1;have hD0:=h;clear hr
 go_enter Tryz.func74,Tryz.ntmps74
 go_upto_region 1 with (fail)
 generalize hW1:w.alloc _=w1 at *;obtain⟨XR,HB⟩:=Bo.en1 hW1;replace h:=h.below HB.out;clear hW1
 go_wp2_with fail
 refine (nInf (s:=true) rfl).mono ?_;rintro ee w2 ⟨K1,s1,M1,E1,rfl,q1,B⟩;replace XR:=XR.below B;replace h:=h.below B;replace HB:=Hqb HB B;clear B
 go_upto_region 2 with (fail)
 have hg3:=XR.lt;have lX3:=Nat.le_refl (World.heap w2).size;have nX3XR:=XR.lt;generalize hWn:w2.alloc _=w3 at *;obtain⟨X3,BW⟩:=Bo.nw hWn;clear hWn;replace XR:=XR.below BW;replace h:=h.below BW;replace HB:=Hqb HB BW;clear BW
 go_wp2_with fail
 generalize w2.heap.size=g3 at *;clear h w1
 go_loopw [9] (fun i wr=>∃k:Nat,k≤n∧i= .int .i64 k∧NInv w g3 (mxp (l.take k)) wr) (fun i _=>n-(intOf i).toNat)
 case atStart=>exact ⟨0,Nat.zero_le _,rfl,_,_,_,_,XR,X3,q1,HB.out⟩
 case round=>
  obtain⟨k,hk,rfl,hI⟩:=hrel;obtain⟨K1,s1,M1,E1,XR,X3,q1,hB⟩:=hI;have HB:=Lib.hid hB;have h:=hD0.below hB;clear hB
  by_cases hlt:k < n
  ·obtain⟨b,o,rfl,hcell⟩:=h.2.2.2 (by omega);obtain⟨D,s,M,E,c0,c1,c2,c3,hM,hx⟩:=hcell k hlt;clear hcell h hD0;have ht:=mxp_take (l:=l) (k:=k) (by rw [HLn.out];exact hlt);rw [←hx]at ht;generalize mxp (l.take k)=R at *;obtain⟨x,hX⟩:∃x,rk D s M E=x:=⟨_,rfl⟩;rw [hX]at ht;have HX:=Lib.hid hX;have HT:=Lib.hid ht;obtain⟨z,hz⟩:∃z,cmpI x R=z:=⟨_,rfl⟩
   have HZ:=Lib.hid (show cmpI (rk D s M E) (rk K1 s1 M1 E1)=z by rw [hX,q1.rk];exact hz)
   clear ht hX hx
   have i1:(k:Int) < n:=by omega
   have i2:(0:Int)≤k:=by omega
   go_upto_region 5 with (fail)
   have hgd:=X3.lt;have lX5:=Nat.le_refl (World.heap wr).size;have nX5XR:=XR.lt;have nX5X3:=X3.lt;generalize hWn:wr.alloc _=w3 at *;obtain⟨X5,BW⟩:=Bo.nw hWn;clear hWn;replace XR:=XR.below BW;replace X3:=X3.below BW;replace HB:=Hqb HB BW;clear BW;clear c0 c1 c2 c3 lX5;have xX3:=X3.cell;have xX5:=X5.cell
   go_wp2_with fail
   refine (nCmp hM q1.top HZ.out).mono ?_;rintro ee w4 ⟨rfl,B⟩;clear xX3 xX5;replace XR:=XR.below B;replace X3:=X3.below B;replace X5:=X5.below B;replace HB:=Hqb HB B;clear B
   by_cases hb:R < x
   ·obtain rfl:1=z:=by rw [←hz,cmpI_gt hb]
    have hT2:=HT.out
    rw [show max R x=x by omega]at hT2
    have xX5:=X5.cell
    go_wp2_with fail
    refine (nTaken hM HX.out).mono ?_;rintro ee w5 ⟨K2,s2,M2,E2,rfl,q2,B⟩;clear xX5;replace XR:=XR.below B;replace X3:=X3.below B;replace X5:=X5.below B;replace HB:=Hqb HB B;clear B;have xX3:=X3.cell;have zX30:=X3.frozen
    go_upto_region 7 with (fail)
    clear xX3 zX30;generalize hS:(((w5.setCell _ _).setCell _ _).setCell _ _).setCell _ _=w6 at *;have SX:=StN.of4 X3 hS;replace XR:=XR.stn SX (by omega);replace X5:=X5.stn SX (by omega);replace HB:=Hqs HB SX (by omega);replace X3:=SX.box;clear SX hS;go_wp2
    go_roundw
    case rel=>
     refine⟨k+1,by omega,by go_num,K2,s2,M2,E2,XR,X3,?_,HB.out⟩
     rw [hT2];exact q2
    case measure=>simp [intOf];omega
   ·have hT2:=HT.out
    rw [show max R x=R by omega]at hT2
    have hz0:¬0 < z:=by
     rw [←hz]
     rcases cmpI_tri x R with⟨a1,a2⟩ | ⟨a1,a2⟩ | ⟨a1,a2⟩ <;> rw [a2] <;> omega
    have e0:decide (0 < z)=false:=decide_eq_false hz0
    go_wp2
    go_roundw
    case rel=>
     refine⟨k+1,by omega,by go_num,K1,s1,M1,E1,XR,X3,?_,HB.out⟩
     rw [hT2];exact q1
    case measure=>simp [intOf];omega
  ·obtain rfl:k=n:=by omega
   rw [List.take_of_length_le (by rw [HLn.out];omega),HR.out]at q1;have xXR:=XR.cell;have zXR0:=XR.frozen;have xX3:=X3.cell;go_wp2;clear xXR zXR0 xX3;have SX:=StN.mk4 XR (.int .i64 K1) (.bool s1) (.int .u64 M1) (.int .i64 E1);exact bodyPost_ret (by simp [results,Tryz.results74,go_sem,SX.box.cell]) rfl ⟨_,_,_,_,rfl,q1,(SX.below HB.out (by omega))⟩
end Go.Proofs.YtaadmpiphnfllaaGreatDoor
namespace Go.Proofs.YtaadmpiphnfllaaGreatDoor.Jo
open Go Go.RowKit
set_option linter.unusedVariables false
structure Off (g:Nat) (new:Array Value) (R:TypeId) (w w':World):Prop where
 os:w'.os=w.os
 tape:w'.tape=w.tape
 output:w'.output=w.output
 size:w.heap.size≤w'.heap.size
 block:∀k,k < w.heap.size→k≠g→w'.heap[k]?=w.heap[k]?
 own:w'.heap[g]?=w.heap[g]?∨w'.heap[g]?=some (.cells new R (0,0))
section
variable {g:Nat} {new:Array Value} {R:TypeId} {w w' w'':World}
theorem Off.refl (g:Nat)(new:Array Value)(R:TypeId)(w:World):Off g new R w w:=⟨rfl,rfl,rfl,Nat.le_refl _,fun _ _ _=>rfl,.inl rfl⟩
theorem Off.drew (w:World):Off g new R w w.drew:=⟨rfl,rfl,rfl,Nat.le_refl _,fun _ _ _=>rfl,.inl rfl⟩
theorem Off.trans (h:Off g new R w w')(k:Off g new R w' w''):Off g new R w w'':=
 ⟨k.os.trans h.os,k.tape.trans h.tape,k.output.trans h.output,Nat.le_trans h.size k.size,fun i hi hn=>(k.block i (Nat.lt_of_lt_of_le hi h.size) hn).trans (h.block i hi hn),by
  rcases k.own with e | e
  ·rcases h.own with f | f
   ·exact .inl (e.trans f)
   ·exact .inr (e.trans f)
  ·exact .inr e⟩
theorem Off.of_below (h:Below w.heap.size w w')(hg:g < w.heap.size):Off g new R w w':=⟨h.os,h.tape,h.output,h.size,fun k hk _=>h.block k hk,.inl (h.block g hg)⟩
theorem Off.of_stn{old:Array Value}(S:StN w w' g old new R):Off g new R w w':=by
 have hb:=S.2.2.2 0 w (Nat.zero_le _) (Below.refl 0 w)
 exact⟨hb.os,hb.tape,hb.output,hb.size,fun k _ hn=>S.2.2.1 k hn,.inr S.2.1⟩
theorem Off.below{B:Nat}{a:World}(O:Off g new R w w')(h:Below B a w)(hB:B≤g)(hg:g < w.heap.size):Below B a w':=
 ⟨O.os.trans h.os,O.tape.trans h.tape,O.output.trans h.output,Nat.le_trans h.size O.size,fun k hk=>(O.block k (by omega) (by omega)).trans (h.block k hk)⟩
theorem _root_.Go.Proofs.YtaadmpiphnfllaaGreatDoor.Bo.off{k:Nat}{cs:Array Value}{T:TypeId}(X:Bo w k cs T)(hk:k≠g)(O:Off g new R w w'):Bo w' k cs T:=X.keep (O.block k X.lt hk)
theorem _root_.Go.Proofs.YtaadmpiphnfllaaGreatDoor.Nm.off{old:Array Value}{B:Option Addr}{m d a:Nat}(h:Nm w B m d a)(X:Bo w g old R)(hn:old.all no32=true)(O:Off g new R w w'):Nm w' B m d a:=by
 obtain⟨b,h⟩:=h
 exact⟨b,h.keep fun hm=>O.block b (h.lt hm) (fun e=>by
  obtain⟨o,_,hc⟩:=h.at hm
  have:=hc 0 hm
  rw [e]at this
  exact X.no hn this)⟩
theorem _root_.Go.Proofs.YtaadmpiphnfllaaGreatDoor.Rd.off{old:Array Value}{B:Option Addr}{m d a:Nat}(h:Rd w B m d a)(X:Bo w g old R)(hn:old.all no32=true)(O:Off g new R w w'):Rd w' B m d a:=by
 obtain⟨b,xs,h,e⟩:=h
 exact⟨b,xs,h.keep fun hm=>O.block b (h.lt hm) (fun e=>by
  obtain⟨o,_,hc⟩:=h.at hm
  have:=hc 0 hm
  rw [e]at this
  exact X.no hn this),e⟩
end
structure LFact (g:Nat) (new:Array Value) (R:TypeId) where
 P:Value→World→Prop
 keep:∀v w w',P v w→Off g new R w w'→P v w'
section
variable {g:Nat} {new:Array Value} {R:TypeId}
def LFact.any:LFact g new R:=⟨fun _ _=>True,fun _ _ _ h _=>h⟩
def LFact.eq (u:Value):LFact g new R:=⟨fun v _=>v=u,fun _ _ _ h _=>h⟩
def LFact.done:LFact g new R:=⟨fun _ w=>Bo w g new R,fun v w w' h o=>by
 rcases o.own with e | e
 ·exact h.keep e
 ·exact e⟩
def lphi (F:List (LFact g new R))(i:Nat)(v:Value)(w:World):Prop:=(F.getD i LFact.any).P v w
variable {P:Program} {ops:Array Oper} {Q:Exit→Act→World→Prop} {a0:Act} {T:List Nat} {ds:List (Option Tmp)} {ls:List (List Nat)} {k:Nat} {F:List (LFact g new R)} {J:World→Prop}
theorem lcons{i:Nat}{o:Oper}{r:List Nat}{di:Option Tmp}{L:List (Option Tmp × Nat)}{f:LFact g new R}(ho:ops[i]?=some o)(hdi:ds.getD i none=di)(hL:((ls.getD i []).map fun j=>(ds.getD j none,j))=L)(hf:F.getD i LFact.any=f)
  (h:∀vs w,J w→(∀j ∈ ls.getD i [],lphi F j (vs j) w)→∀K:Act→World→Prop,Shut (∀v w',f.P v w'→Off g new R w w'→K ((putl vs L a0).put di v) w')→
   if Region.wanted o (yielded ops (putl vs L a0).tmps)=true then Oper.wp P o (putl vs L a0) w K Q else K ((putl vs L a0).put o.dst undef) w)
  (hs:Steps P ops Q a0 (dstOf ds) (depOf ls) (lphi F) J (Off g new R) r):Steps P ops Q a0 (dstOf ds) (depOf ls) (lphi F) J (Off g new R) (i::r):=by
 refine Steps.cons ho (fun vs w hJ hd K hK=>?_) hs
 have e:base (dstOf ds) vs (depOf ls i) a0=putl vs L a0:=by
  rw [base_putl,←hL]
  rfl
 rw [e]at hK⊢
 refine h vs w hJ hd K ?_
 intro v w' h1 h2
 have:=hK.out v w' (by unfold lphi;rw [hf];exact h1) h2
 rwa [show dstOf ds i=di from hdi]at this
theorem region_late{id fuel:Nat}{w:World}{L:List (Option Tmp × Nat)}(hm:P.follows .mixedOrders=true)(hok:ok .any ops T (dstOf ds) (depOf ls) k a0.tmps.size=true)(hnd:T.Nodup)
  (hL:(T.map fun j=>(ds.getD j none,j))=L) (hfu:ops.size-T.length=fuel)
  (step:Steps P ops (NoPanic Q) a0 (dstOf ds) (depOf ls) (lphi F) (fun wj=>Off g new R w wj) (Off g new R) T)
  (fin:∀vs wj,Off g new R w wj→(∀j ∈ T,lphi F j (vs j) wj)→wpAny P .any ops (NoPanic Q) fuel (mark T ops.size) (putl vs L a0) wj):
  (Code.region id ops true).wp P Q a0 w:=by
 refine wp_region_noPanic ?_
 refine wp_region_joint (T:=T) (dst:=dstOf ds) (D:=depOf ls) (k:=k) (Φ:=lphi F) (J:=fun wj=>Off g new R w wj) (St:=Off g new R) hm hok hnd (fun _ _ _ _ h=>h) (fun i _ v w w' h b=>(F.getD i LFact.any).keep v w w' h b) (fun _ _ h b=>h.trans b) (Off.drew w) step ?_
 intro vs w hJ hd
 have e:base (dstOf ds) vs T a0=putl vs L a0:=by
  rw [base_putl,←hL]
  rfl
 rw [e,hfu]
 exact fin vs w hJ hd
end
end Go.Proofs.YtaadmpiphnfllaaGreatDoor.Jo
namespace Go.Proofs.YtaadmpiphnfllaaGreatDoor
open Go.RowKit
set_option linter.unusedVariables false
open Go in
theorem Jo.ld{g:Nat}{new:Array Value}{R:TypeId}{P:Program}{ops:Array Oper}{Q:Exit→Act→World→Prop}{a0:Act}{ds:List (Option Tmp)}{ls:List (List Nat)}{F:List (Jo.LFact g new R)}{J:World→Prop}(i:Nat)(di:Option Tmp)(L:List (Option Tmp × Nat))(f:Jo.LFact g new R){o:Oper}{r:List Nat}(ho:ops[i]?=some o)(hdi:ds.getD i none=di)(hL:((ls.getD i []).map fun j=>(ds.getD j none,j))=L)(hf:F.getD i Jo.LFact.any=f)
  (h:∀vs w,J w→(∀j ∈ ls.getD i [],Jo.lphi F j (vs j) w)→∀K:Act→World→Prop,Shut (∀v w',f.P v w'→Jo.Off g new R w w'→K ((Jo.putl vs L a0).put di v) w')→
   if Region.wanted o (yielded ops (Jo.putl vs L a0).tmps)=true then Oper.wp P o (Jo.putl vs L a0) w K Q else K ((Jo.putl vs L a0).put o.dst undef) w)
  (hs:Jo.Steps P ops Q a0 (Jo.dstOf ds) (Jo.depOf ls) (Jo.lphi F) J (Jo.Off g new R) r):Jo.Steps P ops Q a0 (Jo.dstOf ds) (Jo.depOf ls) (Jo.lphi F) J (Jo.Off g new R) (i::r):=Jo.lcons ho hdi hL hf h hs
open Go in
theorem Jo.lm{P:Program}{ops:Array Oper}{Q:Exit→Act→World→Prop}{a0:Act}{ds:List (Option Tmp)}{ls:List (List Nat)}{g:Nat}{new:Array Value}{R:TypeId}{F:List (Jo.LFact g new R)}{J:World→Prop}{i:Nat}{o:Oper}{r:List Nat}(ho:ops[i]?=some o)
  (h:∀w,J w→Jo.ad (Jo.lphi F) ds w (ls.getD i []) fun l=>∀K:Act→World→Prop,Shut (∀v w',Jo.lphi F i v w'→Jo.Off g new R w w'→K ((Jo.pv l a0).put (ds.getD i none) v) w')→
   if Region.wanted o (yielded ops (Jo.pv l a0).tmps)=true then Oper.wp P o (Jo.pv l a0) w K Q else K ((Jo.pv l a0).put o.dst undef) w)
  (hs:Jo.Steps P ops Q a0 (Jo.dstOf ds) (Jo.depOf ls) (Jo.lphi F) J (Jo.Off g new R) r):Jo.Steps P ops Q a0 (Jo.dstOf ds) (Jo.depOf ls) (Jo.lphi F) J (Jo.Off g new R) (i::r):=
 Jo.lcons ho rfl rfl rfl (fun vs w hJ hd=>by
  have:=Jo.ad_out vs _ _ (h w hJ) hd
  simp only [Jo.pv_map]at this
  exact this) hs
open Go in
theorem Jo.rl{P:Program}{ops:Array Oper}{Q:Exit→Act→World→Prop}{a0:Act}{id:Nat}{w:World}(g:Nat)(new:Array Value)(R:TypeId)(T:List Nat)(ds:List (Option Tmp))(ls:List (List Nat))(k:Nat)(fuel:Nat)(F:List (Jo.LFact g new R))
  (hm:P.follows .mixedOrders=true) (hok:Jo.ok .any ops T (Jo.dstOf ds) (Jo.depOf ls) k a0.tmps.size=true) (hnd:T.Nodup) (hfu:ops.size-T.length=fuel)
  (step:Jo.Steps P ops (NoPanic Q) a0 (Jo.dstOf ds) (Jo.depOf ls) (Jo.lphi F) (fun wj=>Jo.Off g new R w wj) (Jo.Off g new R) T)
  (fin:∀wj,Jo.Off g new R w wj→Jo.ad (Jo.lphi F) ds wj T fun l=>True→wpAny P .any ops (NoPanic Q) fuel (Jo.mark T ops.size) (Jo.pv l a0) wj):
  (Code.region id ops true).wp P Q a0 w:=
 Jo.region_late hm hok hnd rfl hfu step fun vs wj hJ hd=>by
  have:=Jo.ad_out vs _ _ (fin wj hJ) hd
  rw [Jo.pv_map]at this
  exact this trivial
abbrev Jo.k9{g:Nat}{new:Array Value}{R:TypeId}(e:Bool)(D:Int)(s:Bool)(M E:Int)(D':Int)(s':Bool)(M' E':Int):Jo.LFact g new R:=Jo.LFact.eq (.agg #[.bool e,.int .i64 D,.bool s,.int .u64 M,.int .i64 E,.int .i64 D',.bool s',.int .u64 M',.int .i64 E'])
abbrev Jo.kp{g:Nat}{new:Array Value}{R:TypeId}(h i:Nat):Jo.LFact g new R:=Jo.LFact.eq (.pointer (some ⟨h,i,none⟩))
end Go.Proofs.YtaadmpiphnfllaaGreatDoor
namespace Go.Proofs.YtaadmpiphnfllaaGreatDoor
set_option maxHeartbeats 2000000
open Go.RowKit
set_option linter.unusedVariables false
set_option maxRecDepth 100000
theorem dTimes{w:World}{A:Option Addr}{n c:Nat}{s:Bool}{N E low r:Int}(h:Wn w s A n c N)(hn:n≤100000)(h0:low≤E)(h1:E-low≤8388608)(hr:N*((2^(E-low).toNat:Nat):Int)=r):
  Calls Tryz.prog 223 #[.agg #[.bool s,.slice A n c,.int .i64 E],.int .i64 low] w (W1 w (n+(E-low).toNat/32+1) r):=by
 have HR:=Lib.hid hr;clear hr;obtain⟨d,hd⟩:∃d,E-low=d:=⟨_,rfl⟩
 have HW:Hid (IntKind.i64.wrap (E-low)=d):=Lib.hid (by rw [hd];exact IntWalk.i64_in _ (by omega))
 rw [hd]at h1
 have hd0:0≤d:=by omega
 rw [hd]at HR⊢;clear hd h0
 go_enter Tryz.func223,Tryz.ntmps223
 go_wp2_with fail
 have X1:=(Bo.new w #[.bool s,.slice A n c,.int .i64 E] 128).below (bel1 _ (.cells #[.bool false,.slice none 0 0] 27));have XR:=Bo.newAt (w.alloc (.cells #[.bool s,.slice A n c,.int .i64 E] 128)) (g:=w.heap.size+1) (by simp) #[.bool false,.slice none 0 0] 27;replace h:=h.below (bel2 w (.cells #[.bool s,.slice A n c,.int .i64 E] 128) (.cells #[.bool false,.slice none 0 0] 27))
 have HB:=Lib.hid (bel2 w (.cells #[.bool s,.slice A n c,.int .i64 E] 128) (.cells #[.bool false,.slice none 0 0] 27));generalize hW1:(w.alloc (.cells #[.bool s,.slice A n c,.int .i64 E] 128)).alloc (.cells #[.bool false,.slice none 0 0] 27)=w1 at *;clear hW1;go_wp2;refine Jo.rk [0,1,2,3,4,5,6,7,8,9,10,11] [some 5,some 6,some 7,some 8,some 9,some 10,some 11,some 12,some 13,some 14,some 15,some 16,none] [[],[0],[1],[],[3],[4],[],[6],[],[7,8],[5,9],[2,10],[]] 13 1 [Jo.qp w.heap.size 0,Jo.qp w.heap.size 0,Jo.qb s,Jo.qp w.heap.size 0,Jo.qp w.heap.size 1,Jo.Fact.eq (.slice A n c),Jo.qp w.heap.size 2,Jo.qi E,Jo.qi low,Jo.qi d,Jo.Fact.nm (N.natAbs*2^d.toNat) (n+d.toNat/32+1),Jo.Fact.wn r (n+d.toNat/32+1),Jo.Fact.any] (by kernel_rfl) (by kernel_rfl) (by decide) rfl ?_ ?_
 ·iterate 2 (refine Jo.jm rfl ?_ ?_;rotate_left)
  refine Jo.jm rfl ?_ ?_
  ·rintro wj hJ _ rfl K hK;simp only [Jo.z]at hK⊢;have xX10:=(X1.below hJ).a 0 (.bool s) rfl;go_simp;exact hK.out _ _ rfl (br _ _)
  iterate 2 (refine Jo.jm rfl ?_ ?_;rotate_left)
  refine Jo.jm rfl ?_ ?_
  ·rintro wj hJ _ rfl K hK;simp only [Jo.z]at hK⊢;have xX11:=(X1.below hJ).a 1 (.slice A n c) rfl;go_simp;exact hK.out _ _ rfl (br _ _)
  refine Jo.jm rfl ?_ ?_;rotate_left
  refine Jo.jm rfl ?_ ?_
  ·rintro wj hJ _ rfl K hK;simp only [Jo.z]at hK⊢;have xX12:=(X1.below hJ).a 2 (.int .i64 E) rfl;go_simp;exact hK.out _ _ rfl (br _ _)
  refine Jo.jm rfl ?_ ?_;rotate_left
  refine Jo.jm rfl ?_ ?_
  ·rintro wj hJ _ rfl _ rfl K hK;simp only [Jo.z]at hK⊢;have hw:=HW.out;go_simp;exact hK.out _ _ rfl (br _ _)
  refine Jo.jm rfl ?_ ?_
  ·rintro wj hJ _ rfl _ rfl K hK;simp only [Jo.z]at hK⊢;go_simp;refine (vShlZ (h.below hJ).1.rd (by omega) hd0 (by omega) rfl).mono ?_;rintro ee wk ⟨A3,n3,c3,rfl,p3,k3,B⟩;exact hK.out _ _ ⟨A3,n3,c3,rfl,p3,k3⟩ B
  refine Jo.jm rfl ?_ ?_
  ·rintro wj hJ _ rfl _ ⟨A3,n3,c3,rfl,p3,k3⟩ K hK;simp only [Jo.z]at hK⊢;go_simp;exact hK.out _ _ ⟨s,A3,n3,c3,rfl,HR.out▸sg_times h (Nat.pow_pos (by decide)) p3,k3⟩ (br _ _)
  exact Jo.Steps.nil
  all_goals (rintro wj hJ;(repeat rintro _ rfl);intro K hK;simp only [Jo.z]at hK⊢;go_simp;exact hK.out _ _ rfl (br _ _))
 rintro w2 hJ _ _ _ _ _ rfl _ _ _ _ _ rfl _ _ _ rfl _ rfl _ rfl _ ⟨A3,n3,c3,rfl,p3,k3⟩ _ ⟨s4,A4,n4,c4,rfl,p4,k4⟩ -;simp only [Jo.z];replace X1:=X1.below hJ;replace XR:=XR.below hJ;replace h:=h.below hJ;replace HB:=Hqb HB hJ;have xXR:=XR.cell;have zXR0:=XR.frozen
 refine Jo.jnext (i:=12) (o:=⟨none,_,_,_,_,_⟩) (by kernel_rfl) rfl (fun K hK=>?_)
 go_simp;refine hK.out _ _ ?_;clear hK K xXR zXR0;have SX:=StN.mk2 XR (.bool s4) (.slice A4 n4 c4);replace p4:=p4.stn SX (by simp [no32]);refine Jo.jdone (by kernel_rfl) ?_;go_wp2;exact bodyPost_ret (v:= .agg #[.bool s4,.slice A4 n4 c4]) (by simp [results,Tryz.results223,go_sem,SX.box.cell]) rfl ⟨s4,A4,n4,c4,rfl,p4,k4,(SX.below HB.out (by omega))⟩
theorem dMoveW{w:World}{A:Option Addr}{n c:Nat}{s:Bool}{z e k N E:Int}(hT:Tab w)(h:Wr w s A n c z)(hn:n≤100000)(hN:(mk (mk z e).1 (IntKind.i64.wrap ((mk z e).2+k))).1=N)(hE:(mk (mk z e).1 (IntKind.i64.wrap ((mk z e).2+k))).2=E):
  Calls Tryz.prog 189 #[.agg #[.bool s,.slice A n c,.int .i64 e],.int .i64 k] w (D1 w n N E):=by
 obtain⟨N1,hN1⟩:∃x,(mk z e).1=x:=⟨_,rfl⟩;obtain⟨E1,hE1⟩:∃x,(mk z e).2=x:=⟨_,rfl⟩;rw [hN1,hE1]at hN hE;obtain⟨d,hd⟩:∃x,IntKind.i64.wrap (E1+k)=x:=⟨_,rfl⟩;rw [hd]at hN hE;have HD:=Lib.hid hd;have HN1:=Lib.hid hN1;have HE1:=Lib.hid hE1;have HN:=Lib.hid hN;have HE:=Lib.hid hE;clear hN hE hN1 hE1 hd
 go_enter Tryz.func189,Tryz.ntmps189
 go_upto_region 1 with (fail)
 generalize hW1:(w.alloc _).alloc _=w1 at *;obtain⟨X1,XR,HB⟩:=Bo.en2 hW1;replace hT:=hT.below HB.out;replace h:=h.below HB.out;clear hW1;have xX1:=X1.cell
 go_wp2_with fail
 refine (dTaken hT h hn HN1.out HE1.out).mono ?_;rintro ee w2 ⟨s1,A1,n1,c1,rfl,p1,k1,B⟩;clear xX1;replace X1:=X1.below B;replace XR:=XR.below B;replace hT:=hT.below B;replace h:=h.below B;replace HB:=Hqb HB B;clear B;have xX1:=X1.cell;have zX10:=X1.frozen
 go_upto_region 2 with (fail)
 clear xX1 zX10;generalize hS:((w2.setCell _ _).setCell _ _).setCell _ _=w3 at *;have SX:=StN.of3 X1 hS;replace XR:=XR.stn SX (by omega);replace hT:=hT.stn SX (by simp [no8]);replace h:=h.stn SX (by simp [no32]);replace p1:=p1.stn SX (by simp [no32]);replace HB:=Hqs HB SX (by omega);replace X1:=SX.box;clear SX hS;have xX1:=X1.cell
 have hd:=HD.out
 go_wp2_with fail
 refine (dMake hT p1.wr (by clear hd;omega) HN.out HE.out).mono ?_;rintro ee w4 ⟨s4,A4,n4,c4,rfl,p4,k4,B⟩;clear xX1;replace X1:=X1.below B;replace XR:=XR.below B;replace hT:=hT.below B;replace h:=h.below B;replace p1:=p1.below B;replace HB:=Hqb HB B;clear B;clear hd;have xXR:=XR.cell;have zXR0:=XR.frozen;go_wp2;clear xXR zXR0
 have SX:=StN.mk3 XR (.bool s4) (.slice A4 n4 c4) (.int .i64 E);replace p4:=p4.stn SX (by simp [no32]);exact bodyPost_ret (v:= .agg #[.bool s4,.slice A4 n4 c4,.int .i64 E]) (by simp [results,Tryz.results189,go_sem,SX.box.cell]) rfl ⟨s4,A4,n4,c4,rfl,p4,by omega,(SX.below HB.out (by omega))⟩
theorem dfloor_up{w:World}{A:Option Addr}{n c:Nat}{s:Bool}{z e N1 E1 r:Int}(hT:Tab w)(h:Wr w s A n c z)(hn:n≤100000)(HN1:Hid ((mk z e).1=N1))(HE1:Hid ((mk z e).2=E1))(h0:0≤E1)(hb:E1≤4194304)(HR:Hid (N1*((2^(E1-0).toNat:Nat):Int)=r)):
  Calls Tryz.prog 188 #[.agg #[.bool s,.slice A n c,.int .i64 e]] w (W1 w (n+131100) r):=by
 go_enter Tryz.func188,Tryz.ntmps188
 go_upto_region 1 with (fail)
 generalize hW1:(w.alloc _).alloc _=w1 at *;obtain⟨X1,XR,HB⟩:=Bo.en2 hW1;replace hT:=hT.below HB.out;replace h:=h.below HB.out;clear hW1;have xX1:=X1.cell
 go_wp2_with fail
 refine (dTaken hT h hn HN1.out HE1.out).mono ?_;rintro ee w2 ⟨s1,A1,n1,c1,rfl,p1,k1,B⟩;clear xX1;replace X1:=X1.below B;replace XR:=XR.below B;replace hT:=hT.below B;replace h:=h.below B;replace HB:=Hqb HB B;clear B;have xX1:=X1.cell;have zX10:=X1.frozen
 go_upto_region 2 with (fail)
 clear xX1 zX10;generalize hS:((w2.setCell _ _).setCell _ _).setCell _ _=w3 at *;have SX:=StN.of3 X1 hS;replace XR:=XR.stn SX (by omega);replace hT:=hT.stn SX (by simp [no8]);replace h:=h.stn SX (by simp [no32]);replace p1:=p1.stn SX (by simp [no32]);replace HB:=Hqs HB SX (by omega);replace X1:=SX.box;clear SX hS;have xX1:=X1.cell
 go_wp2_with fail
 refine (dTimes p1 (by omega) h0 (by omega) HR.out).mono ?_;rintro ee w4 ⟨s4,A4,n4,c4,rfl,p4,k4,B⟩;clear xX1;replace X1:=X1.below B;replace XR:=XR.below B;replace hT:=hT.below B;replace h:=h.below B;replace p1:=p1.below B;replace HB:=Hqb HB B;clear B;have xXR:=XR.cell;have zXR0:=XR.frozen;go_wp2;clear xXR zXR0;generalize hS:(w4.setCell _ _).setCell _ _=w5 at *
 have SX:=StN.of2 XR hS;replace X1:=X1.stn SX (by omega);replace p4:=p4.stn SX (by simp [no32]);replace HB:=Hqs HB SX (by omega);replace XR:=SX.box;clear SX hS
 have k0:(E1-0).toNat/32≤131072:=by omega
 exact bodyPost_ret (v:= .agg #[.bool s4,.slice A4 n4 c4]) (by simp [results,Tryz.results188,go_sem,XR.cell]) rfl ⟨s4,A4,n4,c4,rfl,p4,by omega,HB.out⟩
theorem dfloor_neg{w:World}{A:Option Addr}{n c:Nat}{s:Bool}{z e N1 E1 r:Int}(hT:Tab w)(h:Wr w s A n c z)(hn:n≤100000)(HN1:Hid ((mk z e).1=N1))(HE1:Hid ((mk z e).2=E1))(h0:E1 < 0)(hb: -4194304≤E1)(hs:N1 < 0)(HR:Hid (-((N1.natAbs/2^(-E1).toNat+1:Nat):Int)=r)):
  Calls Tryz.prog 188 #[.agg #[.bool s,.slice A n c,.int .i64 e]] w (W1 w (n+131100) r):=by
 obtain⟨d,hd⟩:∃d,-E1=d:=⟨_,rfl⟩;have HD:=Lib.hid hd
 have hd0:0≤d:=by omega
 have hd1:d≤4194304:=by omega
 have HW:Hid (IntKind.i64.wrap (-E1)=d):=Lib.hid (by rw [hd];exact IntWalk.i64_in _ (by omega))
 rw [hd]at HR;clear hd
 go_enter Tryz.func188,Tryz.ntmps188
 go_upto_region 1 with (fail)
 generalize hW1:(w.alloc _).alloc _=w1 at *;obtain⟨X1,XR,HB⟩:=Bo.en2 hW1;replace hT:=hT.below HB.out;replace h:=h.below HB.out;clear hW1;have xX1:=X1.cell
 go_wp2_with fail
 refine (dTaken hT h hn HN1.out HE1.out).mono ?_;rintro ee w2 ⟨s1,A1,n1,c1,rfl,p1,k1,B⟩;clear xX1;replace X1:=X1.below B;replace XR:=XR.below B;replace hT:=hT.below B;replace h:=h.below B;replace HB:=Hqb HB B;clear B;have xX1:=X1.cell;have zX10:=X1.frozen
 go_upto_region 2 with (fail)
 clear xX1 zX10;generalize hS:((w2.setCell _ _).setCell _ _).setCell _ _=w3 at *;have SX:=StN.of3 X1 hS;replace XR:=XR.stn SX (by omega);replace hT:=hT.stn SX (by simp [no8]);replace h:=h.stn SX (by simp [no32]);replace p1:=p1.stn SX (by simp [no32]);replace HB:=Hqs HB SX (by omega);replace X1:=SX.box;clear SX hS
 obtain rfl:s1=true:=by rw [p1.2];simp;omega
 have xX1:=X1.cell;have hw:=HW.out
 go_wp2_with fail
 refine (vShrE p1.1.rd (by clear hw;omega) rfl).mono ?_;rintro ee w4 ⟨A3,n3,c3,rfl,p3,k3,B⟩;clear xX1;replace X1:=X1.below B;replace XR:=XR.below B;replace hT:=hT.below B;replace h:=h.below B;replace p1:=p1.below B;replace HB:=Hqb HB B;clear B;clear hw;have xX1:=X1.cell
 go_wp2_with fail
 refine (vAdd (p3.rd.below (bel1 _ _)) (one_rd _) (by omega) (by omega)).mono ?_;rintro ee w5 ⟨A6,n6,c6,rfl,p6,k6,B⟩;replace B:=bt (bel1 _ _) B;clear xX1;replace X1:=X1.below B;replace XR:=XR.below B;replace p3:=p3.below B;replace HB:=Hqb HB B;clear B;have xX1:=X1.cell
 go_wp2_with fail
 refine (wMake true p6.rd).mono ?_;rintro ee w6 ⟨s4,A4,n4,c4,rfl,p4,k4,B⟩;clear xX1;replace X1:=X1.below B;replace XR:=XR.below B;replace p6:=p6.below B;replace HB:=Hqb HB B;clear B
 replace p4:Wn w6 s4 A4 n4 c4 r:=by
  have e:=HR.out;rw [←e];exact p4
 have xXR:=XR.cell;have zXR0:=XR.frozen;go_wp2;clear xXR zXR0;have SX:=StN.mk2 XR (.bool s4) (.slice A4 n4 c4);replace p4:=p4.stn SX (by simp [no32]);exact bodyPost_ret (v:= .agg #[.bool s4,.slice A4 n4 c4]) (by simp [results,Tryz.results188,go_sem,SX.box.cell]) rfl ⟨s4,A4,n4,c4,rfl,p4,by omega,(SX.below HB.out (by omega))⟩
theorem dfloor_pos{w:World}{A:Option Addr}{n c:Nat}{s:Bool}{z e N1 E1 r:Int}(hT:Tab w)(h:Wr w s A n c z)(hn:n≤100000)(HN1:Hid ((mk z e).1=N1))(HE1:Hid ((mk z e).2=E1))(h0:E1 < 0)(hb: -4194304≤E1)(hs:0≤N1)(HR:Hid (((N1.natAbs/2^(-E1).toNat:Nat):Int)=r)):
  Calls Tryz.prog 188 #[.agg #[.bool s,.slice A n c,.int .i64 e]] w (W1 w (n+131100) r):=by
 obtain⟨d,hd⟩:∃d,-E1=d:=⟨_,rfl⟩;have HD:=Lib.hid hd
 have hd0:0≤d:=by omega
 have hd1:d≤4194304:=by omega
 have HW:Hid (IntKind.i64.wrap (-E1)=d):=Lib.hid (by rw [hd];exact IntWalk.i64_in _ (by omega))
 rw [hd]at HR;clear hd
 go_enter Tryz.func188,Tryz.ntmps188
 go_upto_region 1 with (fail)
 generalize hW1:(w.alloc _).alloc _=w1 at *;obtain⟨X1,XR,HB⟩:=Bo.en2 hW1;replace hT:=hT.below HB.out;replace h:=h.below HB.out;clear hW1;have xX1:=X1.cell
 go_wp2_with fail
 refine (dTaken hT h hn HN1.out HE1.out).mono ?_;rintro ee w2 ⟨s1,A1,n1,c1,rfl,p1,k1,B⟩;clear xX1;replace X1:=X1.below B;replace XR:=XR.below B;replace hT:=hT.below B;replace h:=h.below B;replace HB:=Hqb HB B;clear B;have xX1:=X1.cell;have zX10:=X1.frozen
 go_upto_region 2 with (fail)
 clear xX1 zX10;generalize hS:((w2.setCell _ _).setCell _ _).setCell _ _=w3 at *;have SX:=StN.of3 X1 hS;replace XR:=XR.stn SX (by omega);replace hT:=hT.stn SX (by simp [no8]);replace h:=h.stn SX (by simp [no32]);replace p1:=p1.stn SX (by simp [no32]);replace HB:=Hqs HB SX (by omega);replace X1:=SX.box;clear SX hS
 obtain rfl:s1=false:=by rw [p1.2];simp;omega
 have xX1:=X1.cell;have hw:=HW.out
 go_wp2_with fail
 refine (vShrE p1.1.rd (by clear hw;omega) rfl).mono ?_;rintro ee w4 ⟨A3,n3,c3,rfl,p3,k3,B⟩;clear xX1;replace X1:=X1.below B;replace XR:=XR.below B;replace hT:=hT.below B;replace h:=h.below B;replace p1:=p1.below B;replace HB:=Hqb HB B;clear B;clear hw;have xX1:=X1.cell
 go_wp2_with fail
 refine (wMake false p3.rd).mono ?_;rintro ee w6 ⟨s4,A4,n4,c4,rfl,p4,k4,B⟩;clear xX1;replace X1:=X1.below B;replace XR:=XR.below B;replace p3:=p3.below B;replace HB:=Hqb HB B;clear B
 replace p4:Wn w6 s4 A4 n4 c4 r:=by
  have e:=HR.out;rw [←e];exact p4
 have xXR:=XR.cell;have zXR0:=XR.frozen;go_wp2;clear xXR zXR0;have SX:=StN.mk2 XR (.bool s4) (.slice A4 n4 c4);replace p4:=p4.stn SX (by simp [no32]);exact bodyPost_ret (v:= .agg #[.bool s4,.slice A4 n4 c4]) (by simp [results,Tryz.results188,go_sem,SX.box.cell]) rfl ⟨s4,A4,n4,c4,rfl,p4,by omega,(SX.below HB.out (by omega))⟩
theorem dFloor{w:World}{A:Option Addr}{n c:Nat}{s:Bool}{z e r:Int}(hT:Tab w)(h:Wr w s A n c z)(hn:n≤100000)(hr:flr (mk z e).1 (mk z e).2=r):
  Calls Tryz.prog 188 #[.agg #[.bool s,.slice A n c,.int .i64 e]] w (W1 w (n+131100) r):=by
 have hb:=mk_bd z e
 have hnf:=(mk_nf z e).cases
 by_cases h0:0≤(mk z e).2
 ·exact dfloor_up hT h hn (Lib.hid rfl) (Lib.hid rfl) h0 hb.2 (Lib.hid (by rw [←hr,Int.sub_zero];unfold flr;rw [if_pos h0]))
 ·have hod:(mk z e).1.natAbs%2=1:=by
   rcases hnf with e1 | ⟨_,e1,_⟩
   ·rw [e1]at h0;simp at h0
   ·exact e1
  by_cases hs:(mk z e).1 < 0
  ·exact dfloor_neg hT h hn (Lib.hid rfl) (Lib.hid rfl) (by omega) hb.1 hs (Lib.hid (by rw [←hr,flr_neg (by omega) hod hs]))
  ·exact dfloor_pos hT h hn (Lib.hid rfl) (Lib.hid rfl) (by omega) hb.1 (by omega) (Lib.hid (by rw [←hr,flr_pos (by omega) (by omega)]))
end Go.Proofs.YtaadmpiphnfllaaGreatDoor
