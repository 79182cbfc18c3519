/-
 Contracts that the proof rests on.
-/
import Derived.Test.YtomikokonmikgaaGreatDoorYTaq
namespace Go.Proofs.YtomikokonmikgaaGreatDoor
open Go.Proofs.Tryz
set_option maxHeartbeats 4000000
open Go.RowKit
set_option linter.unusedVariables false
set_option linter.unusedSimpArgs false
set_option maxRecDepth 100000
theorem Jy{w:World}{A1:Option Addr}{n c1 a r:Nat}{z:Int}(h1:Rd w A1 n c1 a)(hn:n<=1000000)(hz:z<=16777216)(hr:a*2^z.toNat=r):Calls prog 119 #[.slice A1 n c1,.int .i64 z] w (P1 w (n+z.toNat/32+1) r):=by
 subst hr
 by_cases b:z < 1
 ·rw[show z.toNat=0 by omega,Nat.pow_zero,Nat.mul_one]
  refine(CO z h1 b).mono ?_;rintro e w' ⟨A,m,c,e,h,k,B⟩;exact⟨A,m,c,e,h,by omega,B⟩
 ·have:=Fd z.toNat h1 (by omega) (by omega)
  rwa [show ((z.toNat:Nat):Int)=z by omega]at this
def PU (w:World)(z:Int)(e:Ending)(w':World):Prop:=e= .returned (.int .u64 z)/\Below w.heap.size w w'
theorem EZ{a:Nat}{v:Int}(hv:v=(ac a:Int)-64):a/2^v.toNat*2^(-v).toNat=tp a:=by
 subst hv
 rcases Nat.lt_or_ge (ac a) 64 with h | h
 ·rw[show ((ac a:Int)-64).toNat=0 by omega,Nat.pow_zero,Nat.div_one,fo (by omega),show (-((ac a:Int)-64)).toNat=64-ac a by omega]
 ·rw[show (-((ac a:Int)-64)).toNat=0 by omega,Nat.pow_zero,Nat.mul_one,sT h,show ((ac a:Int)-64).toNat=ac a-64 by omega]
theorem xh{v:Nat}(h1:4294967296<=v)(h2:v < 18446744073709551616):ah v=[v%4294967296,v/4294967296]:=by
 rw[dU (by omega),dU (by omega),show v/4294967296/4294967296=0 by omega,aA,Nat.mod_eq_of_lt (show v/4294967296 < 4294967296 by omega)]
theorem I6{w:World}{A:Option Addr}{n c a:Nat}{L T:Int}(h:Rd w A n c a)(hn:n<=100000)(h0:a≠0)(hL:((ac a:Nat):Int)=L)(hT:((tp a:Nat):Int)=T):Calls prog 273 #[.slice A n c,.int .i64 L] w (PU w T):=by
 have hb:=h.blen_le;obtain⟨v,M⟩:∃v:Int,L-64=v:=⟨_,rfl⟩;have F:=EZ (a:=a) (v:=v) (by omega)
 have k:Hid (IntKind.i64.wrap (L-64)=v):=ie (by rw[M];exact IntWalk.i64_in _ (by omega))
 have l:=iw (-v);obtain⟨q,hq⟩:∃q,a/2^v.toNat=q:=⟨_,rfl⟩;rw[hq]at F;have J:=ie hq;have t:=ie F;have g1:=iS h0;have g2:=fZ a
 revert hT g1 g2 t
 generalize tp a=W
 intro hT t g1 g2
 have i:=xh (v:=W) (by omega) (by omega);obtain⟨X,r⟩:∃X,W/4294967296=X:=⟨_,rfl⟩;obtain⟨Y,s⟩:∃Y,W%4294967296=Y:=⟨_,rfl⟩;rw[r,s]at i
 have P:X < 4294967296:=by omega
 have hY:Y < 4294967296:=by omega
 have m:(X:Int)*4294967296+(Y:Int)=T:=by omega
 have f:=lG X Y P hY;rw[m]at f
 have u:=ie (show IntKind.u64.wrap (X:Int)=X from IntWalk.u64_in _ (by omega))
 have x:=ie (show IntKind.u64.wrap ((X:Int)*4294967296)=(X:Int)*4294967296 from IntWalk.u64_in _ (by omega))
 have y:=ie (show IntKind.u64.wrap (Y:Int)=Y from IntWalk.u64_in _ (by omega))
 have U: -64<=v:=by omega
 have V:v<=3200000:=by omega
 have N:=ie f;have I:=ie i;clear f i m hT g1 g2 F hq M hL r s
 go_enter func273,ntmps273
 have g:=ie (Below.refl w.heap.size w);have G:=k.out
 go_wp2_with fail
 refine(qY h (by omega) J.out).mono ?_;rintro O w2 ⟨A2,n2,c2,rfl,p2,k2,B⟩;replace h:=h.b B;replace g:=aa g B;clear B;clear G;have H:=l.out
 go_wp2_with fail
 refine(Jy p2.rd (by omega) (by omega) t.out).mono ?_;rintro O w3 ⟨A3,n3,c3,rfl,Z,k3,B⟩;replace g:=aa g B;clear B;clear H k l J t;obtain⟨b,hs⟩:=Z;have hl:=hs.len;rw[I.out]at hs hl
 obtain rfl:2=n3:=hl
 obtain⟨o,rfl,E⟩:=hs.at (by decide);have c0:=E 0 (by decide);have c1:=E 1 (by decide);rw[List.getD_cons_zero,Nat.add_zero]at c0;rw[List.getD_cons_succ,List.getD_cons_zero]at c1;clear E hs I
 go_upto_region 3 with (fail)
 refine jk [0,1,2,3,4,5,6,7,8,9,10] [some 15,some 16,some 17,some 18,some 19,some 20,some 21,some 22,some 23,some 24,some 4] [[],[0],[1],[2],[3],[],[5],[6],[7],[4,8],[9]] 11 0 [Jo.Fact.eq (.slice (some ⟨b,o,none⟩) 2 c3),Jo.Fact.eq (.pointer (some ⟨b,o+1,none⟩)),Jo.Fact.eq (.int .u32 (X:Int)),Jo.Fact.eq (.int .u64 (X:Int)),Jo.Fact.eq (.int .u64 ((X:Int)*4294967296)),Jo.Fact.eq (.slice (some ⟨b,o,none⟩) 2 c3),Jo.Fact.eq (.pointer (some ⟨b,o,none⟩)),Jo.Fact.eq (.int .u32 (Y:Int)),Jo.Fact.eq (.int .u64 (Y:Int)),Jo.Fact.eq (.int .u64 T),Jo.Fact.eq (.int .u64 T)] ?_ ?_
 ·iterate 2 (refine jm ?_ ?_;rotate_left)
  refine jm ?_ ?_
  ·rintro j e _ rfl K d;simp only[Jo.z]at d|-
   have C:=(e.cell (p:=⟨b,_,none⟩) (block_lt_of_cell c0)).trans c0
   have D:=(e.cell (p:=⟨b,_,none⟩) (block_lt_of_cell c1)).trans c1
   go_simp;exact d.out _ _ rfl (br _ _)
  refine jm ?_ ?_
  ·rintro j e _ rfl K d;simp only[Jo.z]at d|-;have Q:=u.out;go_simp;exact d.out _ _ rfl (br _ _)
  refine jm ?_ ?_
  ·rintro j e _ rfl K d;simp only[Jo.z]at d|-;have R:=x.out;go_simp;exact d.out _ _ rfl (br _ _)
  iterate 2 (refine jm ?_ ?_;rotate_left)
  refine jm ?_ ?_
  ·rintro j e _ rfl K d;simp only[Jo.z]at d|-
   have C:=(e.cell (p:=⟨b,_,none⟩) (block_lt_of_cell c0)).trans c0
   have D:=(e.cell (p:=⟨b,_,none⟩) (block_lt_of_cell c1)).trans c1
   go_simp;exact d.out _ _ rfl (br _ _)
  refine jm ?_ ?_
  ·rintro j e _ rfl K d;simp only[Jo.z]at d|-;have S:=y.out;go_simp;exact d.out _ _ rfl (br _ _)
  refine jm ?_ ?_
  ·rintro j e _ rfl _ rfl K d;simp only[Jo.z]at d|-;have f:=N.out;go_simp;exact d.out _ _ rfl (br _ _)
  refine jm ?_ ?_;rotate_left
  exact jo
  all_goals (rintro j e;(repeat rintro _ rfl);intro K d;simp only[Jo.z]at d|-;go_simp;exact d.out _ _ rfl (br _ _))
 rintro w4 e _ rfl _ _ _ rfl _ rfl _ rfl _ rfl _ _ _ rfl _ rfl _ rfl _ rfl -;simp only[Jo.z];replace g:=aa g e;refine jd ?_;go_wp2
 go_ret
 exact⟨rfl,g.out⟩
theorem ri{w:World}{A:Option Addr}{n c v:Nat}{T:Int}(h:Nm w A n c v)(hv:v < 18446744073709551616)(hT:(v:Int)=T):Calls prog 220 #[.slice A n c] w (PU w T):=by
 have l:=ie hT;clear hT
 have p:n<=2:=by
  have hl:=h.len
  have:(ah v).length<=2:=aE (by simpa using hv)
  omega
 obtain⟨b,hs⟩:=h;have f:=ie (ay v)
 revert hs f
 generalize ah v=xs
 intro hs f
 go_enter func220,ntmps220
 go_wp2
 go_loop [3,4] (fun u i=>∃k:Nat,k<=n/\i= .int .i64 ((k:Int)-1)/\u= .int .u64 (val (xs.drop k):Nat)) (fun _ i=>(intOf i+1).toNat)
 case atStart=>exact ⟨n,Nat.le_refl _,rfl,by rw[List.drop_of_length_le (by rw[hs.len];omega)];rfl⟩
 case round=>
  obtain⟨k,q,rfl,rfl⟩:=hrel
  rcases Nat.eq_zero_or_pos k with e | m
  ·subst e;rw[List.drop_zero,f.out,l.out]
   have c0:(((0:Nat):Int)-1)= -1:=rfl
   rw[c0];go_wp2
   go_ret
   exact⟨rfl,Below.refl _ _⟩
  ·obtain⟨o,rfl,hcell⟩:=hs.at (by omega);have a:=hcell (k-1) (by omega);have hx:=hs.lim.getD (k-1)
   have d:Hid (val (xs.drop (k-1))=xs.getD (k-1) 0+4294967296*val (xs.drop k)):=ie (by rw[aR (by rw[hs.len];omega),show k-1+1=k by omega])
   have g:val (xs.drop k) < 4294967296:=by
    have:=bF (hs.lim.drop k)
    rw[List.length_drop,hs.len]at this;exact Nat.lt_of_lt_of_le this (Nat.pow_le_pow_right (n:=4294967296) (j:=1) (by decide) (by omega))
   have hi:((k:Int)-1).toNat=k-1:=by omega
   clear hcell
   revert a hx d g
   generalize xs.getD (k-1) 0=x;generalize val (xs.drop k)=u
   intro a hx d g
   go_wp2
   go_round
   case rel=>exact ⟨k-1,by omega,vQ (by omega),vQ (by have:=d.out;omega)⟩
   case measure=>simp [intOf];omega
def Ir (w:World)(r:Int)(t:Bool)(e:Ending)(w':World):Prop:=∃K s M E,e= .returned (.tuple #[.agg #[.int .i64 K,.bool s,.int .u64 M,.int .i64 E],.bool t])/\Fq K s M E r/\Below w.heap.size w w'
theorem xy{w:World}{A:Option Addr}{n c a:Nat}{s:Bool}{E L x r:Int}{t:Bool}(h:Rd w A n c a)(hn:n<=100000)(b1: -4194304<=E)(b2:E<=4194304)(h0:a=0)(hr:0=r)(ht:true=t):
  Calls prog 268 #[.agg #[.bool s,.slice A n c,.int .i64 E]] w (Ir w r t):=by
 have hb:=h.blen_le;subst h0;subst hr;subst ht
 go_enter func268,ntmps268
 go_upto_region 1 with (fail)
 generalize f:(w.alloc _).alloc _=w1 at *;obtain⟨j,e,i⟩:=Bo.en2 f;replace h:=h.below i.out;clear f;have d:=j.cell
 go_wp2_with fail
 refine(iW (z:=0) h rfl).mono ?_;rintro m o ⟨rfl,B⟩;clear d;replace j:=j.b B;replace e:=e.b B;replace i:=aa i B;clear B;have k:=e.cell;have g:=e.frozen;have d:=j.cell;go_wp2;clear k g d;have l:=ae.t4 e 0 false 0 0
 exact bq (v:= .tuple #[.agg #[.int .i64 0,.bool false,.int .u64 0,.int .i64 0],.bool true]) (by simp[results,results268,go_sem,l.box.cell]) rfl ⟨_,_,_,_,rfl,Fq.nought,(l.below i.out (by omega))⟩
theorem A0{w:World}{A:Option Addr}{n c a:Nat}{s:Bool}{E L x r:Int}(h:Rd w A n c a)(hn:n<=100000)(b1: -4194304<=E)(b2:E<=4194304)(h0:a≠0)(hL:((ac a:Nat):Int)=L)(hx:E+L-64=x)(hx3:1048576 < x)(hr:aj s 19342822337206103650074624=r):
  Calls prog 268 #[.agg #[.bool s,.slice A n c,.int .i64 E]] w (Ir w r false):=by
 have hb:=h.blen_le
 have h1:ac a≠0:=fun e=>h0 (aI.1 e)
 have q:=ie hL;have l:=iw (E+L)
 have m:Hid (IntKind.i64.wrap (E+L-64)=x):=ie (by rw[hx];exact IntWalk.i64_in _ (by omega))
 have e0:(L==0)=false:=by
  have:L≠0:=by omega
  simpa using this
 have u:Fq 1 s 18446744073709551615 1048576 r:=Fq.fin (by decide) (by decide) (by decide) (by decide) hr
 clear hL hx hr h1
 go_enter func268,ntmps268
 go_upto_region 1 with (fail)
 generalize j:(w.alloc _).alloc _=w1 at *;obtain⟨f,g,i⟩:=Bo.en2 j;replace h:=h.below i.out;clear j;have d:=f.cell
 go_wp2_with fail
 refine(iW h q.out).mono ?_;rintro t C ⟨rfl,B⟩;clear d;replace f:=f.b B;replace g:=g.b B;replace i:=aa i B;clear B;have y:=l.out;have z:=m.out;have d:=f.cell
 go_wp2_with fail
 refine(nH).mono ?_;rintro t D ⟨rfl,B⟩;clear d;replace f:=f.b B;replace g:=g.b B;replace i:=aa i B;clear B;have o:=g.cell;have k:=g.frozen;have d:=f.cell;go_wp2;clear o k d;have p:=ae.t4 g 1 s 18446744073709551615 1048576
 exact bq (v:= .tuple #[.agg #[.int .i64 1,.bool s,.int .u64 18446744073709551615,.int .i64 1048576],.bool false]) (by simp[results,results268,go_sem,p.box.cell]) rfl ⟨_,_,_,_,rfl,u,(p.below i.out (by omega))⟩
theorem Ba{w:World}{A:Option Addr}{n c a:Nat}{s:Bool}{E L x:Int}(h:Rd w A n c a)(hn:n<=100000)(b1: -4194304<=E)(b2:E<=4194304)(h0:a≠0)(hL:((ac a:Nat):Int)=L)(hx:E+L-64=x)(hx3:x < -1048576):
  Calls prog 268 #[.agg #[.bool s,.slice A n c,.int .i64 E]] w (Ir w 0 false):=by
 have hb:=h.blen_le
 have h1:ac a≠0:=fun e=>h0 (aI.1 e)
 have q:=ie hL;have l:=iw (E+L)
 have m:Hid (IntKind.i64.wrap (E+L-64)=x):=ie (by rw[hx];exact IntWalk.i64_in _ (by omega))
 have e0:(L==0)=false:=by
  have:L≠0:=by omega
  simpa using this
 clear hL hx h1
 go_enter func268,ntmps268
 go_upto_region 1 with (fail)
 generalize g:(w.alloc _).alloc _=w1 at *;obtain⟨k,f,j⟩:=Bo.en2 g;replace h:=h.below j.out;clear g;have d:=k.cell
 go_wp2_with fail
 refine(iW h q.out).mono ?_;rintro u y ⟨rfl,B⟩;clear d;replace k:=k.b B;replace f:=f.b B;replace j:=aa j B;clear B;have r:=l.out;have t:=m.out;have o:=f.cell;have i:=f.frozen;have d:=k.cell;go_wp2;clear o i d;have p:=ae.t4 f 0 false 0 0
 exact bq (v:= .tuple #[.agg #[.int .i64 0,.bool false,.int .u64 0,.int .i64 0],.bool false]) (by simp[results,results268,go_sem,p.box.cell]) rfl ⟨_,_,_,_,rfl,Fq.nought,(p.below j.out (by omega))⟩
theorem Bb{w:World}{A:Option Addr}{n c a:Nat}{s:Bool}{E L x r:Int}{t:Bool}(h:Rd w A n c a)(hn:n<=100000)(b1: -4194304<=E)(b2:E<=4194304)(h0:a≠0)(hL:((ac a:Nat):Int)=L)(hx:E+L-64=x)(hx3: -1048576<=x)(hx4:x<=1048576)(hr:aj s ((tp a:Int)-9223372036854775808+1+(x+1048576)*9223372036854775808)=r)(ht:decide (L<=64)=t):
  Calls prog 268 #[.agg #[.bool s,.slice A n c,.int .i64 E]] w (Ir w r t):=by
 have hb:=h.blen_le
 have h1:ac a≠0:=fun e=>h0 (aI.1 e)
 have M:=ie hL;have q:=iw (E+L)
 have u:Hid (IntKind.i64.wrap (E+L-64)=x):=ie (by rw[hx];exact IntWalk.i64_in _ (by omega))
 have e0:(L==0)=false:=by
  have:L≠0:=by omega
  simpa using this
 obtain⟨T,C⟩:∃T,((tp a:Nat):Int)=T:=⟨_,rfl⟩;rw[C]at hr
 have Q:Fq 1 s T x r:=by
  have g1:=iS h0;have g2:=fZ a;exact Fq.fin (by omega) (by omega) hx3 hx4 hr
 have O:=ie C;have p:=ie ht;clear hL hx hr h1 C ht
 go_enter func268,ntmps268
 go_upto_region 1 with (fail)
 generalize o:(w.alloc _).alloc _=w1 at *;obtain⟨j,l,m⟩:=Bo.en2 o;replace h:=h.below m.out;clear o;have i:=j.cell
 go_wp2_with fail
 refine(iW h M.out).mono ?_;rintro P Y ⟨rfl,B⟩;clear i;replace j:=j.b B;replace l:=l.b B;replace h:=h.b B;replace m:=aa m B;clear B;have F:=q.out;have G:=u.out;have i:=j.cell
 go_upto_region 9 with (fail)
 clear F G;clear i;refine Jo.rl (w.heap.size+1) #[.int .i64 1,.bool s,.int .u64 T,.int .i64 x] 24 [0,1,2,3,4,5,6,7,8,9,10,11,12] [some 27,some 28,some 29,some 30,some 31,some 32,some 33,some 34,some 35,some 36,some 37,some 38,none,some 3] [[],[0],[1],[],[3],[4],[],[5,6],[],[2,7,8],[],[10],[9],[]] 14 1 [Jo.kp w.heap.size 0,Jo.kp w.heap.size 0,Jo.LFact.eq (.bool s),Jo.kp w.heap.size 0,Jo.kp w.heap.size 1,Jo.LFact.eq (.slice A n c),Jo.LFact.eq (.int .i64 L),Jo.LFact.eq (.int .u64 T),Jo.LFact.eq (.int .i64 x),Jo.LFact.eq (.agg #[.int .i64 1,.bool s,.int .u64 T,.int .i64 x]),Jo.LFact.eq (.int .i64 L),Jo.LFact.eq (.bool t),Jo.LFact.done,Jo.LFact.any] (by kernel_rfl) (by kernel_rfl) (by decide) rfl ?_ ?_
 ·refine Jo.lm rfl ?_ ?_
  ·rintro g f K d;simp only[Jo.z]at d|-;go_simp;exact d.out _ _ rfl (Jo.Off.refl _ _ _ _)
  refine Jo.lm rfl ?_ ?_
  ·rintro g f _ rfl K d;simp only[Jo.z]at d|-;go_simp;exact d.out _ _ rfl (Jo.Off.refl _ _ _ _)
  refine Jo.lm rfl ?_ ?_
  ·rintro g f _ rfl K d;simp only[Jo.z]at d|-;replace j:=j.off (by omega) f;have i:=j.cell;go_simp;exact d.out _ _ rfl (Jo.Off.refl _ _ _ _)
  refine Jo.lm rfl ?_ ?_
  ·rintro g f K d;simp only[Jo.z]at d|-;go_simp;exact d.out _ _ rfl (Jo.Off.refl _ _ _ _)
  refine Jo.lm rfl ?_ ?_
  ·rintro g f _ rfl K d;simp only[Jo.z]at d|-;go_simp;exact d.out _ _ rfl (Jo.Off.refl _ _ _ _)
  refine Jo.lm rfl ?_ ?_
  ·rintro g f _ rfl K d;simp only[Jo.z]at d|-;replace j:=j.off (by omega) f;have i:=j.cell;go_simp;exact d.out _ _ rfl (Jo.Off.refl _ _ _ _)
  refine Jo.lm rfl ?_ ?_
  ·rintro g f K d;simp only[Jo.z]at d|-;go_simp;exact d.out _ _ rfl (Jo.Off.refl _ _ _ _)
  refine Jo.lm rfl ?_ ?_
  ·rintro g f _ rfl _ rfl K d;simp only[Jo.z]at d|-;go_simp;refine(I6 (h.off l (by simp[no32]) f) hn h0 M.out O.out).mono ?_;rintro P Z ⟨rfl,B⟩;exact d.out _ _ rfl (Jo.Off.of_below B (Nat.lt_of_lt_of_le l.lt f.size))
  refine Jo.lm rfl ?_ ?_
  ·rintro g f K d;simp only[Jo.z]at d|-;go_simp;exact d.out _ _ rfl (Jo.Off.refl _ _ _ _)
  refine Jo.lm rfl ?_ ?_
  ·rintro g f _ rfl _ rfl _ rfl K d;simp only[Jo.z]at d|-;go_simp;exact d.out _ _ rfl (Jo.Off.refl _ _ _ _)
  refine Jo.lm rfl ?_ ?_
  ·rintro g f K d;simp only[Jo.z]at d|-;go_simp;exact d.out _ _ rfl (Jo.Off.refl _ _ _ _)
  refine Jo.lm rfl ?_ ?_
  ·rintro g f _ rfl K d;simp only[Jo.z]at d|-;have D:=p.out;go_simp
   exact d.out _ _ (by first | rfl | (show Value.bool _=Value.bool _;rw[D])) (Jo.Off.refl _ _ _ _)
  refine Jo.lm rfl ?_ ?_
  ·rintro g f _ rfl K d;simp only[Jo.z]at d|-
   obtain⟨H,I,v2,J,k⟩:∃H I v2 J,Bo g (w.heap.size+1) #[H,I,v2,J] 24:=by
    rcases f.own with e | e
    ·exact⟨_,_,_,_,l.keep e⟩
    ·exact⟨_,_,_,_,e⟩
   have y0:=k.a 0 (H) rfl;have U:=k.frozen 0;have y1:=k.a 1 (I) rfl;have V:=k.frozen 1;have y2:=k.a 2 (v2) rfl;have W:=k.frozen 2;have y3:=k.a 3 (J) rfl;have X:=k.frozen 3;go_simp;have N:=ae.t4 k 1 s T x;exact d.out undef _ N.box (Jo.Off.of_stn N)
  exact jo
 rintro S f _ _ _ _ _ rfl _ _ _ _ _ rfl _ rfl _ rfl _ rfl _ rfl _ rfl _ rfl R y -;simp only[Jo.z];replace m:=ie (f.below m.out (by omega) l.lt)
 replace l:Bo S (w.heap.size+1) #[.int .i64 1,.bool s,.int .u64 T,.int .i64 x] 24:=y
 refine jn 13 fun K d=>?_
 go_simp;refine d.out _ _ ?_;clear d K;refine jd ?_;go_wp2;exact bq (v:= .tuple #[.agg #[.int .i64 1,.bool s,.int .u64 T,.int .i64 x],.bool t]) (by simp[results,results268,go_sem,l.cell]) rfl ⟨_,_,_,_,rfl,Q,m.out⟩
theorem I5{w:World}{A:Option Addr}{n c a:Nat}{s:Bool}{E r:Int}{t:Bool}(h:Rd w A n c a)(hn:n<=100000)(b1: -4194304<=E)(b2:E<=4194304)(hr:aj s (lo a E)=r)(ht:ext a E=t):
  Calls prog 268 #[.agg #[.bool s,.slice A n c,.int .i64 E]] w (Ir w r t):=by
 unfold lo at hr
 unfold ext at ht
 by_cases b:a=0
 ·rw[if_pos b]at hr
  have e0:(a==0)=true:=by simpa using b
  rw[e0]at ht
  exact xy (L:=0) (x:=0) h hn b1 b2 b (by rw[<-hr];cases s <;> rfl) ht
 ·rw[if_neg b]at hr
  have e0:(a==0)=false:=by simpa using b
  rw[e0,Bool.false_or]at ht
  have hx:E+((ac a:Nat):Int)-64=xp a E:=rfl
  by_cases c1:1048576 < xp a E
  ·rw[if_pos c1]at hr
   rw[show decide (xp a E<=1048576)=false from df (by omega),Bool.false_and]at ht
   subst ht;exact A0 h hn b1 b2 b rfl hx c1 hr
  ·rw[if_neg c1]at hr
   rw[show decide (xp a E<=1048576)=true from dt (by omega),Bool.true_and]at ht
   by_cases c2:xp a E < -1048576
   ·rw[if_pos c2]at hr
    rw[show decide (-1048576<=xp a E)=false from df (by omega),Bool.false_and]at ht
    subst ht
    obtain rfl:0=r:=by rw[<-hr];cases s <;> rfl
    exact Ba h hn b1 b2 b rfl hx c2
   ·rw[if_neg c2]at hr
    rw[show decide (-1048576<=xp a E)=true from dt (by omega),Bool.true_and]at ht
    refine Bb h hn b1 b2 b rfl hx (by omega) (by omega) hr ?_;rw[<-ht,Bool.eq_iff_iff]
    simp
    omega
theorem G6 (s:Bool){x:Int}(h0:0<=x)(h1:x<=19342822337206103650074624):nx (!s) (aj s x)=aj s (x+1):=by
 have:=dj
 unfold nx
 cases s
 ·show min TP (x+1)=x+1
  omega
 ·show max (-TP) (-x-1)= -(x+1)
  omega
theorem Bk{a:Nat}{E:Int}(s:Bool)(h:ext a E=false):nx (!s) (aj s (lo a E))=aj s (hi a E):=by
 obtain⟨h1,h2⟩:=qv a E
 have hh:hi a E=lo a E+1:=by
  unfold hi
  rw[h,if_neg (by decide)]
 rw[hh,G6 s h1 h2]
theorem BA (s:Bool)(x y:Int)(b:Bool)(h:b=true):aj s (if b=true then x else y)=aj s x:=by rw[if_pos h]
theorem Bz (s:Bool)(x y:Int)(b:Bool)(h:b=false):aj s (if b=true then x else y)=aj s y:=by rw[h,if_neg (by decide)]
theorem gj{up:Bool}{N E:Int}(h:ext N.natAbs E=true):ed up N E=aj (decide (N < 0)) (lo N.natAbs E):=by
 unfold ed hi
 rw[if_pos h]
 cases hb:(up !=decide (N < 0))
 ·exact Bz _ _ _ _ rfl
 ·exact BA _ _ _ _ rfl
theorem gM{up s:Bool}{N E:Int}(hs:s=decide (N < 0))(h:s=up):ed up N E=aj s (lo N.natAbs E):=by
 unfold ed
 rw[<-hs,h]
 exact Bz _ _ _ _ (by cases up <;> rfl)
theorem gL{s:Bool}{N E:Int}(hs:s=decide (N < 0)):ed (!s) N E=aj s (hi N.natAbs E):=by
 unfold ed
 rw[<-hs]
 exact BA _ _ _ _ (by cases s <;> rfl)
theorem Bj{w:World}{A:Option Addr}{n c:Nat}{s up:Bool}{z e N E r:Int}(hT:dQ w)(h:Wr w s A n c z)(hn:n<=100000)(hN:(mk z e).1=N)(hE:(mk z e).2=E)(hr:ed up N E=r)(hm:qx s n z.natAbs e=true):
  Calls prog 251 #[.agg #[.bool s,.slice A n c,.int .i64 e],.bool up] w (PN w r):=by
 obtain⟨L,M⟩:=fU z e;rw[hE]at L M;have P:=ie hm;have F:=ie hr;obtain⟨p,o⟩:=nX h hm
 obtain rfl:z=N:=by rw[<-hN,o]
 obtain rfl:e=E:=by rw[<-hE,o]
 have m:=ie p.2;have hd:=p.1.rd;clear hm hr hN hE o p
 go_enter func251,ntmps251
 go_upto_region 1 with (fail)
 generalize u:(w.alloc _).alloc _=w1 at *;obtain⟨g,d,j⟩:=Bo.en2 u;replace h:=h.below j.out;replace hd:=hd.below j.out;clear u;have a:=g.cell
 go_wp2_with fail
 refine(Dw h.rd P.out).mono ?_;rintro O U ⟨rfl,B⟩;clear a;replace g:=g.b B;replace d:=d.b B;replace hd:=hd.b B;replace j:=aa j B;clear B;obtain⟨x,hx⟩:∃x,aj s (lo z.natAbs e)=x:=⟨_,rfl⟩;obtain⟨t,ht⟩:∃t,ext z.natAbs e=t:=⟨_,rfl⟩;have C:=ie hx;have H:=ie ht;clear hx ht;have a:=g.cell
 go_wp2_with fail
 refine(I5 hd hn L M C.out H.out).mono ?_;rintro O T ⟨K2,s2,M2,E2,rfl,D,B⟩;clear a;replace g:=g.b B;replace d:=d.b B;replace j:=aa j B;clear B;clear hd
 go_upto_region 4 with (fail)
 have I:=g.lt;have J:=d.lt;generalize v:T.alloc _=V at *;obtain⟨q,y⟩:=Bo.nw v;clear v;replace g:=g.b y;replace d:=d.b y;replace j:=aa j y;clear y
 by_cases ht:t=true
 ·subst ht
  obtain rfl:x=r:=by rw[<-C.out,<-F.out,gj H.out,m.out]
  have k:=d.cell;have f:=d.frozen;have a:=g.cell;have i:=q.cell;go_wp2;clear k f a i;have l:=ae.t4 d K2 s2 M2 E2;exact bq (by simp[results,results251,go_sem,l.box.cell]) rfl ⟨_,_,_,_,rfl,D,(l.below j.out (by omega))⟩
 ·have ht:t=false:=by simpa using ht
  subst ht
  by_cases hs:s=up
  ·obtain rfl:x=r:=by rw[<-C.out,<-F.out,gM m.out hs]
   subst hs;have k:=d.cell;have f:=d.frozen;have a:=g.cell;have i:=q.cell;go_wp2;clear k f a i;have l:=ae.t4 d K2 s2 M2 E2;exact bq (by simp[results,results251,go_sem,l.box.cell]) rfl ⟨_,_,_,_,rfl,D,(l.below j.out (by omega))⟩
  ·obtain rfl:(!s)=up:=by cases s <;> cases up <;> first | rfl | exact absurd rfl hs
   clear hs
   have e2:(s==!s)=false:=by cases s <;> rfl
   have G:Hid (nx (!s) (rk K2 s2 M2 E2)=r):=ie (by rw[D.rk,<-C.out,Bk s H.out,<-F.out,gL m.out])
   have a:=g.cell;have i:=q.cell
   go_wp2_with fail
   refine(vf D.top G.out).mono ?_;rintro O W ⟨Q,s3,R,E3,rfl,S,B⟩;clear a i;replace g:=g.b B;replace d:=d.b B;replace q:=q.b B;replace j:=aa j B;clear B;have k:=d.cell;have f:=d.frozen;have a:=g.cell;have i:=q.cell;go_wp2
   clear k f a i;have l:=ae.t4 d Q s3 R E3;exact bq (by simp[results,results251,go_sem,l.box.cell]) rfl ⟨_,_,_,_,rfl,S,(l.below j.out (by omega))⟩
theorem Bi{w:World}{A:Option Addr}{n c:Nat}{s up:Bool}{z e N E r:Int}(hT:dQ w)(h:Wr w s A n c z)(hn:n<=100000)(hN:(mk z e).1=N)(hE:(mk z e).2=E)(hr:ed up N E=r)(hm:qx s n z.natAbs e=false):
  Calls prog 251 #[.agg #[.bool s,.slice A n c,.int .i64 e],.bool up] w (PN w r):=by
 obtain⟨O,P⟩:=fU z e;rw[hE]at O P;have S:=ie hm;have F:=ie hr;have T:=ie hN;have R:=ie hE;clear hm hr hN hE
 go_enter func251,ntmps251
 go_upto_region 1 with (fail)
 generalize p:(w.alloc _).alloc _=w1 at *;obtain⟨d,f,g⟩:=Bo.en2 p;replace hT:=hT.below g.out;replace h:=h.below g.out;clear p;have a:=d.cell
 go_wp2_with fail
 refine(Dw h.rd S.out).mono ?_;rintro I w2 ⟨rfl,B⟩;clear a;replace d:=d.b B;replace f:=f.b B;replace hT:=hT.b B;replace h:=h.b B;replace g:=aa g B;clear B;have a:=d.cell
 go_wp2_with fail
 refine(tA hT h hn T.out R.out).mono ?_;rintro I X ⟨s1,A1,n1,c1,rfl,u,Z,B⟩;clear a;replace d:=d.b B;replace f:=f.b B;replace g:=aa g B;clear B;have a:=d.cell;have v:=d.frozen
 go_upto_region 3 with (fail)
 clear a v;generalize Q:((X.setCell _ _).setCell _ _).setCell _ _=w4 at *;have k:=ae.of3 d Q;replace f:=f.s k;replace u:=u.s k;replace g:=bn g k (by omega);replace d:=k.box;clear k Q;have m:=ie u.2;have hd:=u.1.rd
 have J:n1<=100000:=by omega
 clear u;obtain⟨x,hx⟩:∃x,aj s1 (lo N.natAbs E)=x:=⟨_,rfl⟩;obtain⟨t,ht⟩:∃t,ext N.natAbs E=t:=⟨_,rfl⟩;have C:=ie hx;have H:=ie ht;clear hx ht;have a:=d.cell
 go_wp2_with fail
 refine(I5 hd J O P C.out H.out).mono ?_;rintro I Y ⟨K2,s2,M2,E2,rfl,D,B⟩;clear a;replace d:=d.b B;replace f:=f.b B;replace g:=aa g B;clear B;clear hd
 go_upto_region 4 with (fail)
 have L:=d.lt;have M:=f.lt;generalize q:Y.alloc _=w6 at *;obtain⟨o,y⟩:=Bo.nw q;clear q;replace d:=d.b y;replace f:=f.b y;replace g:=aa g y;clear y
 by_cases ht:t=true
 ·subst ht
  obtain rfl:x=r:=by rw[<-C.out,<-F.out,gj H.out,m.out]
  have l:=f.cell;have i:=f.frozen;have a:=d.cell;have j:=o.cell;go_wp2;clear l i a j;have k:=ae.t4 f K2 s2 M2 E2;exact bq (by simp[results,results251,go_sem,k.box.cell]) rfl ⟨_,_,_,_,rfl,D,(k.below g.out (by omega))⟩
 ·have ht:t=false:=by simpa using ht
  subst ht
  by_cases hs:s1=up
  ·obtain rfl:x=r:=by rw[<-C.out,<-F.out,gM m.out hs]
   subst hs;have l:=f.cell;have i:=f.frozen;have a:=d.cell;have j:=o.cell;go_wp2;clear l i a j;have k:=ae.t4 f K2 s2 M2 E2;exact bq (by simp[results,results251,go_sem,k.box.cell]) rfl ⟨_,_,_,_,rfl,D,(k.below g.out (by omega))⟩
  ·obtain rfl:(!s1)=up:=by cases s1 <;> cases up <;> first | rfl | exact absurd rfl hs
   clear hs
   have e2:(s1==!s1)=false:=by cases s1 <;> rfl
   have G:Hid (nx (!s1) (rk K2 s2 M2 E2)=r):=ie (by rw[D.rk,<-C.out,Bk s1 H.out,<-F.out,gL m.out])
   have a:=d.cell;have j:=o.cell
   go_wp2_with fail
   refine(vf D.top G.out).mono ?_;rintro I w7 ⟨U,s3,V,E3,rfl,W,B⟩;clear a j;replace d:=d.b B;replace f:=f.b B;replace o:=o.b B;replace g:=aa g B;clear B;have l:=f.cell;have i:=f.frozen;have a:=d.cell;have j:=o.cell;go_wp2
   clear l i a j;have k:=ae.t4 f U s3 V E3;exact bq (by simp[results,results251,go_sem,k.box.cell]) rfl ⟨_,_,_,_,rfl,W,(k.below g.out (by omega))⟩
theorem AY{w:World}{A:Option Addr}{n c:Nat}{s up:Bool}{z e N E r:Int}(hT:dQ w)(h:Wr w s A n c z)(hn:n<=100000)(hN:(mk z e).1=N)(hE:(mk z e).2=E)(hr:ed up N E=r):
  Calls prog 251 #[.agg #[.bool s,.slice A n c,.int .i64 e],.bool up] w (PN w r):=by
 cases hm:qx s n z.natAbs e
 ·exact Bi hT h hn hN hE hr hm
 ·exact Bj hT h hn hN hE hr hm
def C9 (w:World)(N E:Int)(t:Bool)(e:Ending)(w':World):Prop:=∃s A n c,e= .returned (.tuple #[.agg #[.bool s,.slice A n c,.int .i64 E],.bool t])/\Wn w' s A n c N/\n<=2/\Below w.heap.size w w'
def lW (D:Int)(s:Bool)(M E:Int):Bool:=decide (aC D s M E) && !(D==2)
def jp (D:Int)(s:Bool)(M E:Int):Int × Int:=if lW D s M E=true then mk (aj s M) E else (0,0)
def Jo.Fact.rd (a K:Nat):Jo.Fact:=⟨fun v w=>∃A n c,v= .slice A n c/\Rd w A n c a/\n<=K,fun v w w' h b=>by
 obtain⟨A,n,c,e,h,k⟩:=h;exact⟨A,n,c,e,h.below b,k⟩⟩
theorem tW (W:World){X Y a:Nat}(hX:X < 4294967296)(hY:Y < 4294967296)(ha:Y+4294967296*X=a):Rd (W.alloc (.cells #[.int .u32 (Y:Int),.int .u32 (X:Int)] 92)) (some ⟨W.heap.size,0,none⟩) 2 2 a:=
 ⟨_,_,lit2 W Y X hY hX,by simp[val];omega⟩
theorem qS{s:Bool}{M:Int}(h:0<=M):sg s M.toNat=aj s M:=by
 have:((M.toNat:Nat):Int)=M:=by omega
 unfold sg aj
 rw[this]
theorem Be{w:World}{D M E:Int}{s:Bool}(hm:decide (aC D s M E)=false):Calls prog 210 #[VQ D s M E] w (C9 w 0 0 false):=by
 delta VQ
 have j:=ie hm;clear hm
 go_enter func210,ntmps210
 go_upto_region 1 with (fail)
 generalize d:(w.alloc _).alloc _=w1 at *;obtain⟨f,c,g⟩:=Bo.en2 d;clear d;have a:=f.cell
 go_wp2_with fail
 refine(kI j.out).mono ?_;rintro k l ⟨rfl,B⟩;clear a;replace f:=f.b B;replace c:=c.b B;replace g:=aa g B;clear B;have h:=c.cell;have e:=c.frozen;have a:=f.cell;go_wp2;clear h e a;have i:=ae.mk3 c (.bool false) (.slice none 0 0) (.int .i64 0)
 exact bq (v:= .tuple #[.agg #[.bool false,.slice none 0 0,.int .i64 0],.bool false]) (by simp[results,results210,go_sem,i.box.cell]) rfl ⟨_,_,_,_,rfl,Wn.zero,by decide,(i.below g.out (by omega))⟩
theorem Bf{w:World}{D M E:Int}{s:Bool}(hm:decide (aC D s M E)=true)(hd:D=2):Calls prog 210 #[VQ D s M E] w (C9 w 0 0 false):=by
 delta VQ
 have j:=ie hm;clear hm;subst hd
 go_enter func210,ntmps210
 go_upto_region 1 with (fail)
 generalize d:(w.alloc _).alloc _=w1 at *;obtain⟨f,c,g⟩:=Bo.en2 d;clear d;have a:=f.cell
 go_wp2_with fail
 refine(kI j.out).mono ?_;rintro k l ⟨rfl,B⟩;clear a;replace f:=f.b B;replace c:=c.b B;replace g:=aa g B;clear B;have h:=c.cell;have e:=c.frozen;have a:=f.cell;go_wp2;clear h e a;have i:=ae.mk3 c (.bool false) (.slice none 0 0) (.int .i64 0)
 exact bq (v:= .tuple #[.agg #[.bool false,.slice none 0 0,.int .i64 0],.bool false]) (by simp[results,results210,go_sem,i.box.cell]) rfl ⟨_,_,_,_,rfl,Wn.zero,by decide,(i.below g.out (by omega))⟩
theorem Bg{w:World}{D M E:Int}{s:Bool}{N F:Int}(hT:dQ w)(h0:0<=M)(hM:LQ M)(hm:decide (aC D s M E)=true)(hd:D≠2)(hN:(mk (aj s M) E).1=N)(hE:(mk (aj s M) E).2=F):Calls prog 210 #[VQ D s M E] w (C9 w N F true):=by
 delta VQ
 have C:=ie hm;have G:=ie hN;have A:=ie hE
 have e2:(D==2)=false:=by simpa using hd
 obtain⟨X,u⟩:∃X:Nat,M/4294967296=X:=⟨(M/4294967296).toNat,by omega⟩
 obtain⟨Y,hY⟩:∃Y:Nat,M%4294967296=Y:=⟨(M%4294967296).toNat,by omega⟩
 have hx:X < 4294967296:=by omega
 have hy:Y < 4294967296:=by omega
 have O:Y+4294967296*X=M.toNat:=by omega
 have I:=ie u
 have J:Hid (IntKind.u32.wrap M=(Y:Int)):=ie (by
  show M%4294967296=(Y:Int)
  exact hY)
 have n:Hid (IntKind.u32.wrap (X:Int)=(X:Int)):=ie (IntWalk.u32_in _ (by omega))
 have H:Hid (sg s M.toNat=aj s M):=ie (qS h0)
 clear hm hN hE u hY
 go_enter func210,ntmps210
 go_upto_region 1 with (fail)
 generalize j:(w.alloc _).alloc _=w1 at *;obtain⟨h,f,g⟩:=Bo.en2 j;replace hT:=hT.below g.out;clear j;have i:=h.cell
 go_wp2_with fail
 refine(kI C.out).mono ?_;rintro L V ⟨rfl,B⟩;clear i;replace h:=h.b B;replace f:=f.b B;replace hT:=hT.b B;replace g:=aa g B;clear B;have i:=h.cell
 go_upto_region 3 with (fail)
 clear i;refine jk [0,1,2,3,4,5,6,7,8,9,10,11,12,13] [some 13,some 14,some 15,some 16,some 17,some 18,some 19,some 20,some 21,some 22,some 23,some 24,some 25,some 26,none,some 3] [[],[0],[],[2],[3],[],[5],[6],[7],[4,8],[1,9],[],[11],[10,12],[],[]] 16 2 [Jo.qp w.heap.size 1,Jo.qb s,Jo.qp w.heap.size 2,Jo.Fact.eq (.int .u64 M),Jo.Fact.eq (.int .u32 (Y:Int)),Jo.qp w.heap.size 2,Jo.Fact.eq (.int .u64 M),Jo.Fact.eq (.int .u64 (X:Int)),Jo.Fact.eq (.int .u32 (X:Int)),Jo.Fact.rd M.toNat 2,Jo.Fact.wn (aj s M) 2,Jo.qp w.heap.size 3,Jo.qi E,Jo.Fact.dy N F 2,Jo.Fact.any,Jo.Fact.any] ?_ ?_
 ·refine jm ?_ ?_;rotate_left
  refine jm ?_ ?_
  ·rintro e d _ rfl K c;simp only[Jo.z]at c|-;have x:=(h.b d).a 1 (.bool s) rfl;go_simp;exact c.out _ _ rfl (br _ _)
  refine jm ?_ ?_;rotate_left
  refine jm ?_ ?_
  ·rintro e d _ rfl K c;simp only[Jo.z]at c|-;have k:=(h.b d).a 2 (.int .u64 M) rfl;go_simp;exact c.out _ _ rfl (br _ _)
  refine jm ?_ ?_
  ·rintro e d _ rfl K c;simp only[Jo.z]at c|-;have P:=J.out;go_simp;exact c.out _ _ rfl (br _ _)
  refine jm ?_ ?_;rotate_left
  refine jm ?_ ?_
  ·rintro e d _ rfl K c;simp only[Jo.z]at c|-;have k:=(h.b d).a 2 (.int .u64 M) rfl;go_simp;exact c.out _ _ rfl (br _ _)
  refine jm ?_ ?_
  ·rintro e d _ rfl K c;simp only[Jo.z]at c|-;have o:=I.out;go_simp;exact c.out _ _ rfl (br _ _)
  refine jm ?_ ?_
  ·rintro e d _ rfl K c;simp only[Jo.z]at c|-;have o:=n.out;go_simp;exact c.out _ _ rfl (br _ _)
  refine jm ?_ ?_
  ·rintro e d _ rfl _ rfl K c;simp only[Jo.z]at c|-;go_simp;exact c.out _ _ ⟨_,2,2,rfl,tW _ hx hy O,by decide⟩ (af _ _)
  refine jm ?_ ?_
  ·rintro e d _ rfl _ ⟨A3,n3,c3,rfl,S,U⟩ K c;simp only[Jo.z]at c|-;go_simp;refine(kr s S).mono ?_;rintro L Z ⟨s4,A4,n4,c4,rfl,p,Q,B⟩;exact c.out _ _ ⟨s4,A4,n4,c4,rfl,H.out▸p,by omega⟩ B
  refine jm ?_ ?_;rotate_left
  refine jm ?_ ?_
  ·rintro e d _ rfl K c;simp only[Jo.z]at c|-;have y:=(h.b d).a 3 (.int .i64 E) rfl;go_simp;exact c.out _ _ rfl (br _ _)
  refine jm ?_ ?_
  ·rintro e d _ ⟨s4,A4,n4,c4,rfl,p,Q⟩ _ rfl K c;simp only[Jo.z]at c|-;go_simp;exact Jo.d1 (tA (hT.b d) p.wr (by omega) G.out A.out) c.out
  exact jo
  all_goals (rintro e d;(repeat rintro _ rfl);intro K c;simp only[Jo.z]at c|-;go_simp;exact c.out _ _ rfl (br _ _))
 rintro T d _ _ _ rfl _ _ _ rfl _ rfl _ _ _ rfl _ rfl _ rfl _ ⟨A3,n3,c3,rfl,_,_⟩ _ ⟨s4,A4,n4,c4,rfl,_,_⟩ _ _ _ rfl _ ⟨s5,A5,n5,c5,rfl,q,R⟩ -;simp only[Jo.z];replace f:=f.b d;replace g:=aa g d;have r:=f.cell;have l:=f.frozen
 refine jn 14 fun K c=>?_
 go_simp;refine c.out _ _ ?_;clear c K r l;generalize t:((T.setCell _ _).setCell _ _).setCell _ _=W at *;have m:=ae.of3 f t;replace q:=q.s m;replace g:=bn g m (by omega);replace f:=m.box;clear m t
 refine jn 15 fun K c=>?_
 go_simp;refine c.out _ _ ?_;clear c K;refine jd ?_;go_wp2;exact bq (v:= .tuple #[.agg #[.bool s5,.slice A5 n5 c5,.int .i64 F],.bool true]) (by simp[results,results210,go_sem,f.cell]) rfl ⟨_,_,_,_,rfl,q,R,g.out⟩
theorem GZ{w:World}{t:Bool}{D M E:Int}{s:Bool}{N F:Int}(hT:dQ w)(h0:0<=M)(hM:LQ M)(hq:lW D s M E=t)(hN:(jp D s M E).1=N)(hE:(jp D s M E).2=F):Calls prog 210 #[VQ D s M E] w (C9 w N F t):=by
 delta VQ
 unfold jp at hN hE
 rw[hq]at hN hE
 unfold lW at hq
 cases hm:decide (aC D s M E)
 ·rw[hm,Bool.false_and]at hq;subst hq;subst hN;subst hE;exact Be hm
 ·rw[hm,Bool.true_and]at hq
  by_cases hd:D=2
  ·have e:(D==2)=true:=by simpa using hd
   rw[e]at hq;subst hq;subst hN;subst hE;exact Bf hm hd
  ·have e:(D==2)=false:=by simpa using hd
   rw[e]at hq
   obtain rfl:true=t:=hq
   rw[if_pos rfl]at hN hE;exact Bg hT h0 hM hm hd hN hE
theorem C5{w:World}{D M E:Int}{s:Bool}(hm:decide (aC D s M E)=false):Calls prog 169 #[VQ D s M E] w (C9 w 0 0 false):=by
 delta VQ
 have j:=ie hm;clear hm
 go_enter func169,ntmps169
 go_upto_region 1 with (fail)
 generalize d:(w.alloc _).alloc _=w1 at *;obtain⟨f,c,g⟩:=Bo.en2 d;clear d;have a:=f.cell
 go_wp2_with fail
 refine(gV j.out).mono ?_;rintro k l ⟨rfl,B⟩;clear a;replace f:=f.b B;replace c:=c.b B;replace g:=aa g B;clear B;have h:=c.cell;have e:=c.frozen;have a:=f.cell;go_wp2;clear h e a;have i:=ae.mk3 c (.bool false) (.slice none 0 0) (.int .i64 0)
 exact bq (v:= .tuple #[.agg #[.bool false,.slice none 0 0,.int .i64 0],.bool false]) (by simp[results,results169,go_sem,i.box.cell]) rfl ⟨_,_,_,_,rfl,Wn.zero,by decide,(i.below g.out (by omega))⟩
theorem C6{w:World}{D M E:Int}{s:Bool}(hm:decide (aC D s M E)=true)(hd:D=2):Calls prog 169 #[VQ D s M E] w (C9 w 0 0 false):=by
 delta VQ
 have j:=ie hm;clear hm;subst hd
 go_enter func169,ntmps169
 go_upto_region 1 with (fail)
 generalize d:(w.alloc _).alloc _=w1 at *;obtain⟨f,c,g⟩:=Bo.en2 d;clear d;have a:=f.cell
 go_wp2_with fail
 refine(gV j.out).mono ?_;rintro k l ⟨rfl,B⟩;clear a;replace f:=f.b B;replace c:=c.b B;replace g:=aa g B;clear B;have h:=c.cell;have e:=c.frozen;have a:=f.cell;go_wp2;clear h e a;have i:=ae.mk3 c (.bool false) (.slice none 0 0) (.int .i64 0)
 exact bq (v:= .tuple #[.agg #[.bool false,.slice none 0 0,.int .i64 0],.bool false]) (by simp[results,results169,go_sem,i.box.cell]) rfl ⟨_,_,_,_,rfl,Wn.zero,by decide,(i.below g.out (by omega))⟩
theorem C8{w:World}{s:Bool}{M E:Int}(hm:decide (aC 0 s M E)=true):Calls prog 169 #[VQ 0 s M E] w (C9 w 0 0 true):=by
 delta VQ
 have j:=ie hm;clear hm
 go_enter func169,ntmps169
 go_upto_region 1 with (fail)
 generalize d:(w.alloc _).alloc _=w1 at *;obtain⟨f,c,g⟩:=Bo.en2 d;clear d;have a:=f.cell
 go_wp2_with fail
 refine(gV j.out).mono ?_;rintro k l ⟨rfl,B⟩;clear a;replace f:=f.b B;replace c:=c.b B;replace g:=aa g B;clear B;have h:=c.cell;have e:=c.frozen;have a:=f.cell;go_wp2;clear h e a;have i:=ae.mk3 c (.bool false) (.slice none 0 0) (.int .i64 0)
 exact bq (v:= .tuple #[.agg #[.bool false,.slice none 0 0,.int .i64 0],.bool true]) (by simp[results,results169,go_sem,i.box.cell]) rfl ⟨_,_,_,_,rfl,Wn.zero,by decide,(i.below g.out (by omega))⟩
def PR (w:World)(a:Nat)(e:Ending)(w':World):Prop:=∃A n c,e= .returned (.slice A n c)/\Rd w' A n c a/\n<=2/\Below w.heap.size w w'
theorem Ip{w:World}{M:Int}(h0:0<=M)(hM:LQ M):Calls prog 223 #[.int .u64 M] w (PR w M.toNat):=by
 obtain⟨X,b⟩:∃X:Nat,M/4294967296=X:=⟨(M/4294967296).toNat,by omega⟩
 obtain⟨Y,hY⟩:∃Y:Nat,M%4294967296=Y:=⟨(M%4294967296).toNat,by omega⟩
 have hx:X < 4294967296:=by omega
 have hy:Y < 4294967296:=by omega
 have a:Y+4294967296*X=M.toNat:=by omega
 have w1:IntKind.u32.wrap (X:Int)=X:=IntWalk.u32_in _ (by omega)
 have c:IntKind.u32.wrap (Y:Int)=Y:=IntWalk.u32_in _ (by omega)
 go_enter func223,ntmps223
 go_wp2
 go_ret
 exact⟨_,2,2,rfl,tW w hx hy a,by decide,af _ _⟩
theorem C7{w:World}{D M E:Int}{s:Bool}{N F:Int}(h0:0<=M)(hM:LQ M)(hm:decide (aC D s M E)=true)(hd:D≠2)(hz:D≠0)(hN:(mk (aj s M) E).1=N)(hE:(mk (aj s M) E).2=F):Calls prog 169 #[VQ D s M E] w (C9 w N F true):=by
 delta VQ
 have G:=ie hm;have H:=ie hN;have C:=ie hE
 have e2:(D==2)=false:=by simpa using hd
 have e0:(D==0)=false:=by simpa using hz
 obtain⟨X,t⟩:∃X:Nat,M/4294967296=X:=⟨(M/4294967296).toNat,by omega⟩
 obtain⟨Y,hY⟩:∃Y:Nat,M%4294967296=Y:=⟨(M%4294967296).toNat,by omega⟩
 have hx:X < 4294967296:=by omega
 have hy:Y < 4294967296:=by omega
 have T:Y+4294967296*X=M.toNat:=by omega
 have R:=ie t
 have S:Hid (IntKind.u32.wrap M=(Y:Int)):=ie (by
  show M%4294967296=(Y:Int)
  exact hY)
 have J:Hid (IntKind.u32.wrap (X:Int)=(X:Int)):=ie (IntWalk.u32_in _ (by omega))
 have I:Hid (sg s M.toNat=aj s M):=ie (qS h0)
 clear hm hN hE t hY
 go_enter func169,ntmps169
 go_upto_region 1 with (fail)
 generalize j:(w.alloc _).alloc _=w1 at *;obtain⟨g,e,f⟩:=Bo.en2 j;clear j;have h:=g.cell
 go_wp2_with fail
 refine(gV G.out).mono ?_;rintro q U ⟨rfl,B⟩;clear h;replace g:=g.b B;replace e:=e.b B;replace f:=aa f B;clear B;have h:=g.cell
 go_upto_region 6 with (fail)
 clear h;refine jk [0,1,2,3,4,5,6,7,8] [some 19,some 20,some 21,some 22,some 23,some 24,some 25,some 26,some 27,none,some 3] [[],[0],[],[2],[3],[1,4],[],[6],[5,7],[],[]] 11 2 [Jo.qp w.heap.size 1,Jo.qb s,Jo.qp w.heap.size 2,Jo.Fact.eq (.int .u64 M),Jo.Fact.rd M.toNat 2,Jo.Fact.wn (aj s M) 2,Jo.qp w.heap.size 3,Jo.qi E,Jo.Fact.dy N F 2,Jo.Fact.any,Jo.Fact.any] ?_ ?_
 ·refine jm ?_ ?_;rotate_left
  refine jm ?_ ?_
  ·rintro i d _ rfl K c;simp only[Jo.z]at c|-;have x:=(g.b d).a 1 (.bool s) rfl;go_simp;exact c.out _ _ rfl (br _ _)
  refine jm ?_ ?_;rotate_left
  refine jm ?_ ?_
  ·rintro i d _ rfl K c;simp only[Jo.z]at c|-;have y:=(g.b d).a 2 (.int .u64 M) rfl;go_simp;exact c.out _ _ rfl (br _ _)
  refine jm ?_ ?_
  ·rintro i d _ rfl K c;simp only[Jo.z]at c|-;go_simp;refine(Ip h0 hM).mono ?_;rintro q Q ⟨A3,n3,c3,rfl,m,u,B⟩;exact c.out _ _ ⟨A3,n3,c3,rfl,m,u⟩ B
  refine jm ?_ ?_
  ·rintro i d _ rfl _ ⟨A3,n3,c3,rfl,m,u⟩ K c;simp only[Jo.z]at c|-;go_simp;refine(db s m).mono ?_;rintro q Q ⟨s4,A4,n4,c4,rfl,n,L,B⟩;exact c.out _ _ ⟨s4,A4,n4,c4,rfl,I.out▸n,by omega⟩ B
  refine jm ?_ ?_;rotate_left
  refine jm ?_ ?_
  ·rintro i d _ rfl K c;simp only[Jo.z]at c|-;have A:=(g.b d).a 3 (.int .i64 E) rfl;go_simp;exact c.out _ _ rfl (br _ _)
  refine jm ?_ ?_
  ·rintro i d _ ⟨s4,A4,n4,c4,rfl,n,L⟩ _ rfl K c;simp only[Jo.z]at c|-;go_simp;exact Jo.d1 (bQ n.wr (by omega) H.out C.out) c.out
  exact jo
  all_goals (rintro i d;(repeat rintro _ rfl);intro K c;simp only[Jo.z]at c|-;go_simp;exact c.out _ _ rfl (br _ _))
 rintro P d _ _ _ rfl _ _ _ rfl _ ⟨A3,n3,c3,rfl,_,_⟩ _ ⟨s4,A4,n4,c4,rfl,_,_⟩ _ _ _ rfl _ ⟨s5,A5,n5,c5,rfl,o,O⟩ -;simp only[Jo.z];replace e:=e.b d;replace f:=aa f d;have p:=e.cell;have k:=e.frozen
 refine jn 9 fun K c=>?_
 go_simp;refine c.out _ _ ?_;clear c K p k;generalize r:((P.setCell _ _).setCell _ _).setCell _ _=V at *;have l:=ae.of3 e r;replace o:=o.s l;replace f:=bn f l (by omega);replace e:=l.box;clear l r
 refine jn 10 fun K c=>?_
 go_simp;refine c.out _ _ ?_;clear c K;refine jd ?_;go_wp2;exact bq (v:= .tuple #[.agg #[.bool s5,.slice A5 n5 c5,.int .i64 F],.bool true]) (by simp[results,results169,go_sem,e.cell]) rfl ⟨_,_,_,_,rfl,o,O,f.out⟩
theorem iq{w:World}{t:Bool}{D M E:Int}{s:Bool}{N F:Int}(h0:0<=M)(hM:LQ M)(hq:lW D s M E=t)(hN:(jp D s M E).1=N)(hE:(jp D s M E).2=F):Calls prog 169 #[VQ D s M E] w (C9 w N F t):=by
 delta VQ
 unfold jp at hN hE
 rw[hq]at hN hE
 unfold lW at hq
 cases hm:decide (aC D s M E)
 ·rw[hm,Bool.false_and]at hq;subst hq;subst hN;subst hE;exact C5 hm
 ·rw[hm,Bool.true_and]at hq
  by_cases hd:D=2
  ·have e:(D==2)=true:=by simpa using hd
   rw[e]at hq;subst hq;subst hN;subst hE;exact C6 hm hd
  ·have e:(D==2)=false:=by simpa using hd
   rw[e]at hq
   obtain rfl:true=t:=hq
   rw[if_pos rfl]at hN hE
   by_cases hz:D=0
   ·subst hz
    have e1:s=false/\M=0/\E=0:=by
     have:=of_decide_eq_true hm
     unfold aC at this
     simpa using this
    obtain⟨rfl,rfl,rfl⟩:=e1
    have e2:mk (aj false 0) 0=(0,0):=da 0
    rw[e2]at hN hE;subst hN;subst hE;exact C8 hm
   ·exact C7 h0 hM hm hd hz hN hE
theorem Gz{a:Nat}{E:Int}(s:Bool)(h:a≠0):fin s (tp a) (xp a E) false=aj s (lo a E):=by
 have:=dj
 unfold fin lo
 rw[if_neg h];refine congrArg (aj s) ?_
 by_cases c1:1048576 < xp a E
 ·rw[if_pos c1,if_pos c1,if_neg (by decide)]
  omega
 ·rw[if_neg c1,if_neg c1]
  by_cases c2:xp a E < -1048576
  ·rw[if_pos c2,if_pos c2,if_neg (by decide)]
  ·rw[if_neg c2,if_neg c2]
theorem wL{a:Nat}{E:Int}(s:Bool)(h:a≠0)(hl:ac a<=64):fin s (tp a) (xp a E) true=aj s (hi a E):=by
 have:=dj
 have e0:(a==0)=false:=by simpa using h
 unfold fin hi ext lo
 rw[if_neg h,e0,Bool.false_or,dt hl,Bool.and_true]
 congr 1
 by_cases c1:1048576 < xp a E
 ·rw[if_pos c1,if_pos rfl,df (show ¬xp a E<=1048576 by omega),Bool.false_and,if_neg (by decide),if_pos c1]
  omega
 ·rw[if_neg c1,if_neg c1,dt (show xp a E<=1048576 by omega),Bool.true_and]
  by_cases c2:xp a E < -1048576
  ·rw[if_pos c2,if_pos rfl,df (show ¬ -1048576<=xp a E by omega),if_neg (by decide),if_pos c2]
   rfl
  ·rw[if_neg c2,dt (show -1048576<=xp a E by omega),if_pos rfl,if_neg c2]
theorem zQ{a:Nat}{E:Int}(hl:64 < ac a):hi a E=lo a E+1:=by
 have b:a≠0:=fun e=>by rw[e]at hl;exact absurd hl (by decide)
 have e0:(a==0)=false:=by simpa using b
 have:ext a E=false:=by
  unfold ext
  rw[e0,df (show ¬ac a<=64 by omega)]
  simp
 unfold hi
 rw[this,if_neg (by decide)]
theorem GA{a:Nat}{E:Int}(s:Bool)(hl:64 < ac a)(ht:tp a+1 < 2^64):fin s ((tp a+1:Nat):Int) (xp a E) true=aj s (hi a E):=by
 have:=dj
 have b:a≠0:=fun e=>by rw[e]at hl;exact absurd hl (by decide)
 rw[zQ hl]
 unfold fin lo
 rw[if_neg b]
 congr 1
 by_cases c1:1048576 < xp a E
 ·rw[if_pos c1,if_pos c1,if_pos rfl]
  omega
 ·rw[if_neg c1,if_neg c1]
  by_cases c2:xp a E < -1048576
  ·rw[if_pos c2,if_pos c2,if_pos rfl]
   rfl
  ·rw[if_neg c2,if_neg c2]
   omega
theorem wK{a:Nat}{E:Int}(s:Bool)(hl:64 < ac a)(ht:tp a+1=2^64):fin s 9223372036854775808 (xp a E+1) true=aj s (hi a E):=by
 have:=dj
 have b:a≠0:=fun e=>by rw[e]at hl;exact absurd hl (by decide)
 rw[zQ hl]
 unfold fin lo
 rw[if_neg b]
 congr 1
 by_cases c1:1048576 < xp a E
 ·rw[if_pos (show 1048576 < xp a E+1 by omega),if_pos c1,if_pos rfl]
  omega
 ·rw[if_neg c1]
  by_cases c3:1048576 < xp a E+1
  ·rw[if_pos c3,if_pos rfl,if_neg (show ¬xp a E < -1048576 by omega)]
   omega
  ·rw[if_neg c3]
   by_cases c2:xp a E < -1048576
   ·rw[if_pos c2]
    by_cases c4:xp a E+1 < -1048576
    ·rw[if_pos c4,if_pos rfl]
     rfl
    ·rw[if_neg c4]
     omega
   ·rw[if_neg c2,if_neg (by omega)]
    omega
theorem sU{a:Nat}(h:64 < ac a):a/2^((ac a:Int)-64).toNat=tp a:=by
 rw[sT (by omega),show ((ac a:Int)-64).toNat=ac a-64 by omega]
theorem CG{a:Nat}(h:ac a<=64):a*2^(64-(ac a:Int)).toNat=tp a:=by
 rw[fo h,show (64-(ac a:Int)).toNat=64-ac a by omega]
theorem rj{w:World}{A:Option Addr}{n c a:Nat}{s sg0 up:Bool}{z e N E:Int}(h:Wr w s A n c z)(hn:n<=100000)(hN:(mk z e).1=N)(hE:(mk z e).2=E)(ha:N.natAbs=a)(hs:decide (N < 0)=sg0)(h0:a=0):
  Calls prog 161 #[.agg #[.bool s,.slice A n c,.int .i64 e],.bool up] w (PN w 0):=by
 obtain⟨D,F⟩:=fU z e;rw[hE]at D F;have v:=ie hN;have u:=ie hE;have t:=ie ha;have x:=ie hs;clear hN hE ha hs;subst h0
 go_enter func161,ntmps161
 go_upto_region 1 with (fail)
 generalize g:(w.alloc _).alloc _=w1 at *;obtain⟨y,d,f⟩:=Bo.en2 g;replace h:=h.below f.out;clear g;have o:=y.cell
 go_wp2_with fail
 refine(bQ h hn v.out u.out).mono ?_;rintro H G ⟨s1,A1,n1,c1,rfl,l,I,B⟩;clear o;replace d:=d.b B;replace f:=aa f B;clear B
 go_upto_region 2 with (fail)
 have m:=d.lt;generalize i:G.alloc _=J at *;obtain⟨C,k⟩:=Bo.nw i;clear i;replace d:=d.b k;replace l:=l.b k;replace f:=aa f k;clear k
 have hz:n1=0:=by have:=l.1.pos;have:=t.out;omega
 subst hz;clear l;have q:=d.cell;have j:=d.frozen;have p:=C.cell;go_wp2;clear q j p;have r:=ae.t4 d 0 false 0 0;exact bq (by simp[results,results161,go_sem,r.box.cell]) rfl ⟨_,_,_,_,rfl,Fq.nought,(r.below f.out (by omega))⟩
theorem yj{w:World}{A:Option Addr}{n c a:Nat}{s sg0:Bool}{z e N E L x r:Int}(h:Wr w s A n c z)(hn:n<=100000)(hN:(mk z e).1=N)(hE:(mk z e).2=E)(ha:N.natAbs=a)(hs:decide (N < 0)=sg0)(h0:a≠0)(hL:((ac a:Nat):Int)=L)(hl:L<=64)(hx:E+L-64=x)(hb:L<=3200000)(hr:fin sg0 (tp a) x false=r):
  Calls prog 161 #[.agg #[.bool s,.slice A n c,.int .i64 e],.bool sg0] w (PN w r):=by
 obtain⟨b1,b2⟩:=fU z e;rw[hE]at b1 b2;have HN:=ie hN;have HE:=ie hE;have HA:=ie ha;have o:=ie hs;have HL:=ie hL
 have P:ac a≠0:=fun e=>h0 (aI.1 e)
 have g1:=iS h0;have g2:=fZ a;have G:=iw (E+L)
 have H:Hid (IntKind.i64.wrap (E+L-64)=x):=ie (by rw[hx];exact IntWalk.i64_in _ (by omega))
 obtain⟨T,J⟩:∃T,((tp a:Nat):Int)=T:=⟨_,rfl⟩;rw[J]at hr;have HT:=ie J;have HR:=ie hr;obtain⟨v,C⟩:∃v,64-L=v:=⟨_,rfl⟩
 have HV:Hid (IntKind.i64.wrap (64-L)=v):=ie (by rw[C];exact IntWalk.i64_in _ (by omega))
 have F:Hid (a*2^v.toNat=tp a):=ie (by rw[<-C,<-hL];exact CG (by omega))
 have Q:0<=v:=by omega
 have bH:v<=64:=by omega
 have M:9223372036854775808<=T:=by omega
 have O:T < 18446744073709551616:=by omega
 have D:=ie g2;clear hN hE ha hs hL hx hr J C g1 g2 P
 go_enter func161,ntmps161
 go_upto_region 1 with (fail)
 generalize p:(w.alloc _).alloc _=w1 at *;obtain⟨X1,g,i⟩:=Bo.en2 p;replace h:=h.below i.out;clear p;have U:=X1.cell
 go_wp2_with fail
 refine(bQ h hn HN.out HE.out).mono ?_;rintro I m ⟨s1,A1,n1,c1,rfl,t,k1,B⟩;clear U;replace g:=g.b B;replace h:=h.b B;replace i:=aa i B;clear B
 go_upto_region 2 with (fail)
 have R:=g.lt;generalize q:m.alloc _=w3 at *;obtain⟨k,y⟩:=Bo.nw q;clear q;replace g:=g.b y;replace t:=t.b y;replace i:=aa i y;clear y
 obtain rfl:s1=sg0:=t.2.trans o.out
 have p2:Nm w3 A1 n1 c1 a:=HA.out▸t.1
 have bC:=p2.rd.blen_le
 have bD:n1<=100000:=by omega
 have X:0 < n1:=p2.pos.2 (by omega)
 clear t o
 have e0:((n1:Int)==0)=false:=by
  have:(n1:Int)≠0:=by omega
  simpa using this
 have bB:n1<=1099511627776:=by omega
 have f1:(s1 !=s1)=false:=by cases s1 <;> rfl
 have f2:(!s1 !=s1)=true:=by cases s1 <;> rfl
 have f3:(s1==s1)=true:=by cases s1 <;> rfl
 have f4:((!s1)==s1)=false:=by cases s1 <;> rfl
 have l:=k.cell
 go_wp2_with fail
 refine(nk p2.rd HL.out).mono ?_;rintro I w4 ⟨rfl,B⟩;clear l;replace g:=g.b B;replace k:=k.b B;replace p2:=p2.b B;replace i:=aa i B;clear B;have l:=k.cell
 go_upto_region 7 with (fail)
 clear l;refine jk [0,1,2,3,4,5,6,7,8,9,10,11,12,13,14,15,16] [some 32,some 33,some 34,some 35,some 36,some 37,some 38,some 39,some 40,some 41,some 42,some 43,some 44,some 45,some 46,some 47,some 48,none] [[],[0],[1],[],[3],[4],[],[6],[5,7],[8],[],[10],[],[11,12],[13],[],[2,9,14,15],[]] 18 1 [Jo.qp m.heap.size 0,Jo.qp m.heap.size 0,Jo.qb s1,Jo.qp m.heap.size 0,Jo.qp m.heap.size 1,Jo.Fact.eq (.slice A1 n1 c1),Jo.qi L,Jo.qi v,Jo.Fact.nm (tp a) 100100,Jo.Fact.eq (.int .u64 T),Jo.qp m.heap.size 2,Jo.qi E,Jo.qi L,Jo.Fact.eq (.int .i64 (E+L)),Jo.qi x,Jo.qb false,Jo.Fact.num r,Jo.Fact.any] ?_ ?_
 ·iterate 2 (refine jm ?_ ?_;rotate_left)
  refine jm ?_ ?_
  ·rintro j f _ rfl K d;simp only[Jo.z]at d|-;have Y:=(k.b f).a 0 (.bool s1) rfl;go_simp;exact d.out _ _ rfl (br _ _)
  iterate 2 (refine jm ?_ ?_;rotate_left)
  refine jm ?_ ?_
  ·rintro j f _ rfl K d;simp only[Jo.z]at d|-;have Z:=(k.b f).a 1 (.slice A1 n1 c1) rfl;go_simp;exact d.out _ _ rfl (br _ _)
  refine jm ?_ ?_;rotate_left
  refine jm ?_ ?_
  ·rintro j f _ rfl K d;simp only[Jo.z]at d|-;have C:=HV.out;go_simp;exact d.out _ _ rfl (br _ _)
  refine jm ?_ ?_
  ·rintro j f _ rfl _ rfl K d;simp only[Jo.z]at d|-;go_simp;refine(js (p2.b f).rd (by omega) Q (by omega) F.out).mono ?_;rintro I wk ⟨A3,n3,c3,rfl,S,k3,B⟩;exact d.out _ _ ⟨A3,n3,c3,rfl,S,by omega⟩ B
  refine jm ?_ ?_
  ·rintro j f _ ⟨A3,n3,c3,rfl,S,k3⟩ K d;simp only[Jo.z]at d|-;go_simp;refine(ri S D.out HT.out).mono ?_;rintro I wk ⟨rfl,B⟩;exact d.out _ _ rfl B
  refine jm ?_ ?_;rotate_left
  refine jm ?_ ?_
  ·rintro j f _ rfl K d;simp only[Jo.z]at d|-;have bA:=(k.b f).a 2 (.int .i64 E) rfl;go_simp;exact d.out _ _ rfl (br _ _)
  refine jm ?_ ?_;rotate_left
  refine jm ?_ ?_
  ·rintro j f _ rfl _ rfl K d;simp only[Jo.z]at d|-;have bN:=G.out;go_simp;exact d.out _ _ rfl (br _ _)
  refine jm ?_ ?_
  ·rintro j f _ rfl K d;simp only[Jo.z]at d|-;have fH:=H.out;go_simp;exact d.out _ _ rfl (br _ _)
  refine jm ?_ ?_;rotate_left
  refine jm ?_ ?_
  ·rintro j f _ rfl _ rfl _ rfl _ rfl K d;simp only[Jo.z]at d|-;go_simp;exact Jo.n1 (CZ M O HR.out) d.out
  exact jo
  all_goals (rintro j f;(repeat rintro _ rfl);intro K d;simp only[Jo.z]at d|-;go_simp;exact d.out _ _ rfl (br _ _))
 rintro w5 f _ _ _ _ _ rfl _ _ _ _ _ rfl _ rfl _ rfl _ ⟨A3,n3,c3,rfl,_,_⟩ _ rfl _ _ _ rfl _ rfl _ rfl _ rfl _ rfl _ ⟨K4,s4,M4,E4,rfl,q4⟩ -;simp only[Jo.z];replace g:=g.b f;replace i:=aa i f;have V:=g.cell;have u:=g.frozen
 refine jn 17 fun K d=>?_
 go_simp;refine d.out _ _ ?_;clear d K V u;have W:=ae.t4 g K4 s4 M4 E4;refine jd ?_;go_wp2;exact bq (by simp[results,results161,go_sem,W.box.cell]) rfl ⟨_,_,_,_,rfl,q4,(W.below i.out (by omega))⟩
theorem yi{w:World}{A:Option Addr}{n c a:Nat}{s sg0:Bool}{z e N E L x r:Int}(h:Wr w s A n c z)(hn:n<=100000)(hN:(mk z e).1=N)(hE:(mk z e).2=E)(ha:N.natAbs=a)(hs:decide (N < 0)=sg0)(h0:a≠0)(hL:((ac a:Nat):Int)=L)(hl:L<=64)(hx:E+L-64=x)(hb:L<=3200000)(hr:fin sg0 (tp a) x true=r):
  Calls prog 161 #[.agg #[.bool s,.slice A n c,.int .i64 e],.bool (!sg0)] w (PN w r):=by
 obtain⟨b1,b2⟩:=fU z e;rw[hE]at b1 b2;have HN:=ie hN;have HE:=ie hE;have HA:=ie ha;have o:=ie hs;have HL:=ie hL
 have P:ac a≠0:=fun e=>h0 (aI.1 e)
 have g1:=iS h0;have g2:=fZ a;have G:=iw (E+L)
 have H:Hid (IntKind.i64.wrap (E+L-64)=x):=ie (by rw[hx];exact IntWalk.i64_in _ (by omega))
 obtain⟨T,J⟩:∃T,((tp a:Nat):Int)=T:=⟨_,rfl⟩;rw[J]at hr;have HT:=ie J;have HR:=ie hr;obtain⟨v,C⟩:∃v,64-L=v:=⟨_,rfl⟩
 have HV:Hid (IntKind.i64.wrap (64-L)=v):=ie (by rw[C];exact IntWalk.i64_in _ (by omega))
 have F:Hid (a*2^v.toNat=tp a):=ie (by rw[<-C,<-hL];exact CG (by omega))
 have Q:0<=v:=by omega
 have bH:v<=64:=by omega
 have M:9223372036854775808<=T:=by omega
 have O:T < 18446744073709551616:=by omega
 have D:=ie g2;clear hN hE ha hs hL hx hr J C g1 g2 P
 go_enter func161,ntmps161
 go_upto_region 1 with (fail)
 generalize p:(w.alloc _).alloc _=w1 at *;obtain⟨X1,g,i⟩:=Bo.en2 p;replace h:=h.below i.out;clear p;have U:=X1.cell
 go_wp2_with fail
 refine(bQ h hn HN.out HE.out).mono ?_;rintro I m ⟨s1,A1,n1,c1,rfl,t,k1,B⟩;clear U;replace g:=g.b B;replace h:=h.b B;replace i:=aa i B;clear B
 go_upto_region 2 with (fail)
 have R:=g.lt;generalize q:m.alloc _=w3 at *;obtain⟨k,y⟩:=Bo.nw q;clear q;replace g:=g.b y;replace t:=t.b y;replace i:=aa i y;clear y
 obtain rfl:s1=sg0:=t.2.trans o.out
 have p2:Nm w3 A1 n1 c1 a:=HA.out▸t.1
 have bC:=p2.rd.blen_le
 have bD:n1<=100000:=by omega
 have X:0 < n1:=p2.pos.2 (by omega)
 clear t o
 have e0:((n1:Int)==0)=false:=by
  have:(n1:Int)≠0:=by omega
  simpa using this
 have bB:n1<=1099511627776:=by omega
 have f1:(s1 !=s1)=false:=by cases s1 <;> rfl
 have f2:(!s1 !=s1)=true:=by cases s1 <;> rfl
 have f3:(s1==s1)=true:=by cases s1 <;> rfl
 have f4:((!s1)==s1)=false:=by cases s1 <;> rfl
 have l:=k.cell
 go_wp2_with fail
 refine(nk p2.rd HL.out).mono ?_;rintro I w4 ⟨rfl,B⟩;clear l;replace g:=g.b B;replace k:=k.b B;replace p2:=p2.b B;replace i:=aa i B;clear B;have l:=k.cell
 go_upto_region 7 with (fail)
 clear l;refine jk [0,1,2,3,4,5,6,7,8,9,10,11,12,13,14,15,16] [some 32,some 33,some 34,some 35,some 36,some 37,some 38,some 39,some 40,some 41,some 42,some 43,some 44,some 45,some 46,some 47,some 48,none] [[],[0],[1],[],[3],[4],[],[6],[5,7],[8],[],[10],[],[11,12],[13],[],[2,9,14,15],[]] 18 1 [Jo.qp m.heap.size 0,Jo.qp m.heap.size 0,Jo.qb s1,Jo.qp m.heap.size 0,Jo.qp m.heap.size 1,Jo.Fact.eq (.slice A1 n1 c1),Jo.qi L,Jo.qi v,Jo.Fact.nm (tp a) 100100,Jo.Fact.eq (.int .u64 T),Jo.qp m.heap.size 2,Jo.qi E,Jo.qi L,Jo.Fact.eq (.int .i64 (E+L)),Jo.qi x,Jo.qb true,Jo.Fact.num r,Jo.Fact.any] ?_ ?_
 ·iterate 2 (refine jm ?_ ?_;rotate_left)
  refine jm ?_ ?_
  ·rintro j f _ rfl K d;simp only[Jo.z]at d|-;have Y:=(k.b f).a 0 (.bool s1) rfl;go_simp;exact d.out _ _ rfl (br _ _)
  iterate 2 (refine jm ?_ ?_;rotate_left)
  refine jm ?_ ?_
  ·rintro j f _ rfl K d;simp only[Jo.z]at d|-;have Z:=(k.b f).a 1 (.slice A1 n1 c1) rfl;go_simp;exact d.out _ _ rfl (br _ _)
  refine jm ?_ ?_;rotate_left
  refine jm ?_ ?_
  ·rintro j f _ rfl K d;simp only[Jo.z]at d|-;have C:=HV.out;go_simp;exact d.out _ _ rfl (br _ _)
  refine jm ?_ ?_
  ·rintro j f _ rfl _ rfl K d;simp only[Jo.z]at d|-;go_simp;refine(js (p2.b f).rd (by omega) Q (by omega) F.out).mono ?_;rintro I wk ⟨A3,n3,c3,rfl,S,k3,B⟩;exact d.out _ _ ⟨A3,n3,c3,rfl,S,by omega⟩ B
  refine jm ?_ ?_
  ·rintro j f _ ⟨A3,n3,c3,rfl,S,k3⟩ K d;simp only[Jo.z]at d|-;go_simp;refine(ri S D.out HT.out).mono ?_;rintro I wk ⟨rfl,B⟩;exact d.out _ _ rfl B
  refine jm ?_ ?_;rotate_left
  refine jm ?_ ?_
  ·rintro j f _ rfl K d;simp only[Jo.z]at d|-;have bA:=(k.b f).a 2 (.int .i64 E) rfl;go_simp;exact d.out _ _ rfl (br _ _)
  refine jm ?_ ?_;rotate_left
  refine jm ?_ ?_
  ·rintro j f _ rfl _ rfl K d;simp only[Jo.z]at d|-;have bN:=G.out;go_simp;exact d.out _ _ rfl (br _ _)
  refine jm ?_ ?_
  ·rintro j f _ rfl K d;simp only[Jo.z]at d|-;have fH:=H.out;go_simp;exact d.out _ _ rfl (br _ _)
  refine jm ?_ ?_;rotate_left
  refine jm ?_ ?_
  ·rintro j f _ rfl _ rfl _ rfl _ rfl K d;simp only[Jo.z]at d|-;go_simp;exact Jo.n1 (CZ M O HR.out) d.out
  exact jo
  all_goals (rintro j f;(repeat rintro _ rfl);intro K d;simp only[Jo.z]at d|-;go_simp;exact d.out _ _ rfl (br _ _))
 rintro w5 f _ _ _ _ _ rfl _ _ _ _ _ rfl _ rfl _ rfl _ ⟨A3,n3,c3,rfl,_,_⟩ _ rfl _ _ _ rfl _ rfl _ rfl _ rfl _ rfl _ ⟨K4,s4,M4,E4,rfl,q4⟩ -;simp only[Jo.z];replace g:=g.b f;replace i:=aa i f;have V:=g.cell;have u:=g.frozen
 refine jn 17 fun K d=>?_
 go_simp;refine d.out _ _ ?_;clear d K V u;have W:=ae.t4 g K4 s4 M4 E4;refine jd ?_;go_wp2;exact bq (by simp[results,results161,go_sem,W.box.cell]) rfl ⟨_,_,_,_,rfl,q4,(W.below i.out (by omega))⟩
theorem yh{w:World}{A:Option Addr}{n c a:Nat}{s sg0:Bool}{z e N E L x r:Int}(h:Wr w s A n c z)(hn:n<=100000)(hN:(mk z e).1=N)(hE:(mk z e).2=E)(ha:N.natAbs=a)(hs:decide (N < 0)=sg0)(h0:a≠0)(hL:((ac a:Nat):Int)=L)(hl:64 < L)(hx:E+L-64=x)(hb:L<=3200000)(hr:fin sg0 (tp a) x false=r):
  Calls prog 161 #[.agg #[.bool s,.slice A n c,.int .i64 e],.bool sg0] w (PN w r):=by
 obtain⟨b1,b2⟩:=fU z e;rw[hE]at b1 b2;have HN:=ie hN;have HE:=ie hE;have HA:=ie ha;have l:=ie hs;have HL:=ie hL
 have M:ac a≠0:=fun e=>h0 (aI.1 e)
 have g1:=iS h0;have g2:=fZ a;have D:=iw (E+L)
 have F:Hid (IntKind.i64.wrap (E+L-64)=x):=ie (by rw[hx];exact IntWalk.i64_in _ (by omega))
 obtain⟨v,p⟩:∃v,L-64=v:=⟨_,rfl⟩
 have HV:Hid (IntKind.i64.wrap (L-64)=v):=ie (by rw[p];exact IntWalk.i64_in _ (by omega))
 have C:Hid (a/2^v.toNat=tp a):=ie (by rw[<-p,<-hL];exact sU (by omega))
 obtain⟨T,H⟩:∃T,((tp a:Nat):Int)=T:=⟨_,rfl⟩;rw[H]at hr;have HT:=ie H;have HR:=ie hr
 have I:9223372036854775808<=T:=by omega
 have J:T < 18446744073709551616:=by omega
 have y:=ie g2;clear hN hE ha hs hL hx hr H p g1 g2 M
 go_enter func161,ntmps161
 go_upto_region 1 with (fail)
 generalize m:(w.alloc _).alloc _=w1 at *;obtain⟨X1,d,g⟩:=Bo.en2 m;replace h:=h.below g.out;clear m;have U:=X1.cell
 go_wp2_with fail
 refine(bQ h hn HN.out HE.out).mono ?_;rintro G R ⟨s1,A1,n1,c1,rfl,q,k1,B⟩;clear U;replace d:=d.b B;replace h:=h.b B;replace g:=aa g B;clear B
 go_upto_region 2 with (fail)
 have Q:=d.lt;generalize o:R.alloc _=w3 at *;obtain⟨j,u⟩:=Bo.nw o;clear o;replace d:=d.b u;replace q:=q.b u;replace g:=aa g u;clear u
 obtain rfl:s1=sg0:=q.2.trans l.out
 have p2:Nm w3 A1 n1 c1 a:=HA.out▸q.1
 have bB:=p2.rd.blen_le
 have bC:n1<=100000:=by omega
 have X:0 < n1:=p2.pos.2 (by omega)
 clear q l
 have e0:((n1:Int)==0)=false:=by
  have:(n1:Int)≠0:=by omega
  simpa using this
 have bA:n1<=1099511627776:=by omega
 have f1:(s1 !=s1)=false:=by cases s1 <;> rfl
 have f2:(!s1 !=s1)=true:=by cases s1 <;> rfl
 have f3:(s1==s1)=true:=by cases s1 <;> rfl
 have f4:((!s1)==s1)=false:=by cases s1 <;> rfl
 have i:=j.cell
 go_wp2_with fail
 refine(nk p2.rd HL.out).mono ?_;rintro G w4 ⟨rfl,B⟩;clear i;replace d:=d.b B;replace j:=j.b B;replace p2:=p2.b B;replace g:=aa g B;clear B;have i:=j.cell;have p:=HV.out
 go_wp2_with fail
 refine(qL v p2.rd (by omega)).mono ?_;rintro G w5 ⟨A3,n3,c3,rfl,Y,k3,B⟩;clear i;replace d:=d.b B;replace j:=j.b B;replace g:=aa g B;clear B p;rw[C.out]at Y;have i:=j.cell;have O:=D.out;have P:=F.out
 go_upto_region 15 with (fail)
 clear O P;clear i;have p9:=Y;refine jk [0,1,2,3,4,5,6,7] [some 71,some 72,some 73,some 74,some 75,some 76,some 77,some 78,none] [[],[0],[1],[],[3],[],[],[2,4,5,6],[]] 9 1 [Jo.qp R.heap.size 0,Jo.qp R.heap.size 0,Jo.qb s1,Jo.Fact.eq (.slice A3 n3 c3),Jo.Fact.eq (.int .u64 T),Jo.qi x,Jo.qb false,Jo.Fact.num r,Jo.Fact.any] ?_ ?_
 ·iterate 2 (refine jm ?_ ?_;rotate_left)
  refine jm ?_ ?_
  ·rintro S k _ rfl K f;simp only[Jo.z]at f|-;have Z:=(j.b k).a 0 (.bool s1) rfl;go_simp;exact f.out _ _ rfl (br _ _)
  refine jm ?_ ?_;rotate_left
  refine jm ?_ ?_
  ·rintro S k _ rfl K f;simp only[Jo.z]at f|-;go_simp;refine(ri (p9.b k) y.out HT.out).mono ?_;rintro G wk ⟨rfl,B⟩;exact f.out _ _ rfl B
  iterate 2 (refine jm ?_ ?_;rotate_left)
  refine jm ?_ ?_
  ·rintro S k _ rfl _ rfl _ rfl _ rfl K f;simp only[Jo.z]at f|-;go_simp;exact Jo.n1 (CZ I J HR.out) f.out
  exact jo
  all_goals (rintro S k;(repeat rintro _ rfl);intro K f;simp only[Jo.z]at f|-;go_simp;exact f.out _ _ rfl (br _ _))
 rintro w8 k _ _ _ _ _ rfl _ rfl _ rfl _ rfl _ rfl _ ⟨K4,s4,M4,E4,rfl,q4⟩ -;simp only[Jo.z];replace d:=d.b k;replace g:=aa g k;have V:=d.cell;have t:=d.frozen
 refine jn 8 fun K f=>?_
 go_simp;refine f.out _ _ ?_;clear f K V t;have W:=ae.t4 d K4 s4 M4 E4;refine jd ?_;go_wp2;exact bq (by simp[results,results161,go_sem,W.box.cell]) rfl ⟨_,_,_,_,rfl,q4,(W.below g.out (by omega))⟩
theorem yg{w:World}{A:Option Addr}{n c a:Nat}{s sg0:Bool}{z e N E L x r:Int}(h:Wr w s A n c z)(hn:n<=100000)(hN:(mk z e).1=N)(hE:(mk z e).2=E)(ha:N.natAbs=a)(hs:decide (N < 0)=sg0)(h0:a≠0)(hL:((ac a:Nat):Int)=L)(hl:64 < L)(hx:E+L-64=x)(hb:L<=3200000)(hc:tp a+1 < 2^64)(hr:fin sg0 ((tp a+1:Nat):Int) x true=r):
  Calls prog 161 #[.agg #[.bool s,.slice A n c,.int .i64 e],.bool (!sg0)] w (PN w r):=by
 obtain⟨b1,b2⟩:=fU z e;rw[hE]at b1 b2;have HN:=ie hN;have HE:=ie hE;have HA:=ie ha;have l:=ie hs;have HL:=ie hL
 have Q:ac a≠0:=fun e=>h0 (aI.1 e)
 have g1:=iS h0;have g2:=fZ a;have H:=iw (E+L)
 have I:Hid (IntKind.i64.wrap (E+L-64)=x):=ie (by rw[hx];exact IntWalk.i64_in _ (by omega))
 obtain⟨v,q⟩:∃v,L-64=v:=⟨_,rfl⟩
 have HV:Hid (IntKind.i64.wrap (L-64)=v):=ie (by rw[q];exact IntWalk.i64_in _ (by omega))
 have G:Hid (a/2^v.toNat=tp a):=ie (by rw[<-q,<-hL];exact sU (by omega))
 obtain⟨U,P⟩:∃U,tp a+1=U:=⟨_,rfl⟩;have HU:=ie P;rw[P]at hr hc;obtain⟨T,J⟩:∃T,((U:Nat):Int)=T:=⟨_,rfl⟩;rw[J]at hr;have HT:=ie J;have HR:=ie hr
 have M:9223372036854775808<=T:=by omega
 have O:T < 18446744073709551616:=by omega
 have D:=ie hc;obtain⟨ℓ,hℓ⟩:∃ℓ,((ac U:Nat):Int)=ℓ:=⟨_,rfl⟩
 have fH:ℓ<=64:=by
  have:=ai hc
  omega
 have F:=ie hℓ;clear hN hE ha hs hL hx hr J q g1 g2 Q hc P hℓ
 go_enter func161,ntmps161
 go_upto_region 1 with (fail)
 generalize o:(w.alloc _).alloc _=w1 at *;obtain⟨X1,d,f⟩:=Bo.en2 o;replace h:=h.below f.out;clear o;have Y:=X1.cell
 go_wp2_with fail
 refine(bQ h hn HN.out HE.out).mono ?_;rintro m W ⟨s1,A1,n1,c1,rfl,t,k1,B⟩;clear Y;replace d:=d.b B;replace h:=h.b B;replace f:=aa f B;clear B
 go_upto_region 2 with (fail)
 have V:=d.lt;generalize p:W.alloc _=w3 at *;obtain⟨i,y⟩:=Bo.nw p;clear p;replace d:=d.b y;replace t:=t.b y;replace f:=aa f y;clear y
 obtain rfl:s1=sg0:=t.2.trans l.out
 have p2:Nm w3 A1 n1 c1 a:=HA.out▸t.1
 have bD:=p2.rd.blen_le
 have bH:n1<=100000:=by omega
 have bA:0 < n1:=p2.pos.2 (by omega)
 clear t l
 have e0:((n1:Int)==0)=false:=by
  have:(n1:Int)≠0:=by omega
  simpa using this
 have bC:n1<=1099511627776:=by omega
 have f1:(s1 !=s1)=false:=by cases s1 <;> rfl
 have f2:(!s1 !=s1)=true:=by cases s1 <;> rfl
 have f3:(s1==s1)=true:=by cases s1 <;> rfl
 have f4:((!s1)==s1)=false:=by cases s1 <;> rfl
 have j:=i.cell
 go_wp2_with fail
 refine(nk p2.rd HL.out).mono ?_;rintro m w4 ⟨rfl,B⟩;clear j;replace d:=d.b B;replace i:=i.b B;replace p2:=p2.b B;replace f:=aa f B;clear B;have j:=i.cell;have q:=HV.out
 go_wp2_with fail
 refine(qL v p2.rd (by omega)).mono ?_;rintro m w5 ⟨A3,n3,c3,rfl,p3,k3,B⟩;clear j;replace d:=d.b B;replace i:=i.b B;replace f:=aa f B;clear B q;rw[G.out]at p3;have j:=i.cell;have R:=H.out;have S:=I.out
 go_wp2_with fail
 clear R S;refine(kf (p3.rd.below (af _ _)) (jF _) (by omega) (by omega) HU.out).mono ?_;rintro m w6 ⟨A4,n4,c4,rfl,C,k4,B⟩;replace B:=bt (af _ _) B;clear j;replace d:=d.b B;replace i:=i.b B;replace f:=aa f B;clear B
 have bN:n3<=100000:=by omega
 go_wp2_with fail
 refine(nk C.rd F.out).mono ?_;rintro m w7 ⟨rfl,B⟩;replace d:=d.b B;replace i:=i.b B;replace C:=C.b B;replace f:=aa f B;clear B
 go_upto_region 15 with (fail)
 have p9:=C;refine jk [0,1,2,3,4,5,6,7] [some 71,some 72,some 73,some 74,some 75,some 76,some 77,some 78,none] [[],[0],[1],[],[3],[],[],[2,4,5,6],[]] 9 1 [Jo.qp W.heap.size 0,Jo.qp W.heap.size 0,Jo.qb s1,Jo.Fact.eq (.slice A4 n4 c4),Jo.Fact.eq (.int .u64 T),Jo.qi x,Jo.qb true,Jo.Fact.num r,Jo.Fact.any] ?_ ?_
 ·iterate 2 (refine jm ?_ ?_;rotate_left)
  refine jm ?_ ?_
  ·rintro X k _ rfl K g;simp only[Jo.z]at g|-;have bB:=(i.b k).a 0 (.bool s1) rfl;go_simp;exact g.out _ _ rfl (br _ _)
  refine jm ?_ ?_;rotate_left
  refine jm ?_ ?_
  ·rintro X k _ rfl K g;simp only[Jo.z]at g|-;go_simp;refine(ri (p9.b k) D.out HT.out).mono ?_;rintro m wk ⟨rfl,B⟩;exact g.out _ _ rfl B
  iterate 2 (refine jm ?_ ?_;rotate_left)
  refine jm ?_ ?_
  ·rintro X k _ rfl _ rfl _ rfl _ rfl K g;simp only[Jo.z]at g|-;go_simp;exact Jo.n1 (CZ M O HR.out) g.out
  exact jo
  all_goals (rintro X k;(repeat rintro _ rfl);intro K g;simp only[Jo.z]at g|-;go_simp;exact g.out _ _ rfl (br _ _))
 rintro w8 k _ _ _ _ _ rfl _ rfl _ rfl _ rfl _ rfl _ ⟨K4,s4,M4,E4,rfl,q4⟩ -;simp only[Jo.z];replace d:=d.b k;replace f:=aa f k;have Z:=d.cell;have u:=d.frozen
 refine jn 8 fun K g=>?_
 go_simp;refine g.out _ _ ?_;clear g K Z u;have SX:=ae.t4 d K4 s4 M4 E4;refine jd ?_;go_wp2;exact bq (by simp[results,results161,go_sem,SX.box.cell]) rfl ⟨_,_,_,_,rfl,q4,(SX.below f.out (by omega))⟩
theorem yf{w:World}{A:Option Addr}{n c a:Nat}{s sg0:Bool}{z e N E L x r:Int}(h:Wr w s A n c z)(hn:n<=100000)(hN:(mk z e).1=N)(hE:(mk z e).2=E)(ha:N.natAbs=a)(hs:decide (N < 0)=sg0)(h0:a≠0)(hL:((ac a:Nat):Int)=L)(hl:64 < L)(hx:E+L-64=x)(hb:L<=3200000)(hc:tp a+1=2^64)(hr:fin sg0 9223372036854775808 (x+1) true=r):
  Calls prog 161 #[.agg #[.bool s,.slice A n c,.int .i64 e],.bool (!sg0)] w (PN w r):=by
 obtain⟨b1,b2⟩:=fU z e;rw[hE]at b1 b2;have HN:=ie hN;have HE:=ie hE;have HA:=ie ha;have m:=ie hs;have HL:=ie hL
 have S:ac a≠0:=fun e=>h0 (aI.1 e)
 have g1:=iS h0;have g2:=fZ a;have M:=iw (E+L)
 have O:Hid (IntKind.i64.wrap (E+L-64)=x):=ie (by rw[hx];exact IntWalk.i64_in _ (by omega))
 obtain⟨v,t⟩:∃v,L-64=v:=⟨_,rfl⟩
 have HV:Hid (IntKind.i64.wrap (L-64)=v):=ie (by rw[t];exact IntWalk.i64_in _ (by omega))
 have I:Hid (a/2^v.toNat=tp a):=ie (by rw[<-t,<-hL];exact sU (by omega))
 obtain⟨U,R⟩:∃U,tp a+1=U:=⟨_,rfl⟩;have HU:=ie R;rw[R]at hc;have HR:=ie hr
 have P:(9223372036854775808:Int)<=9223372036854775808:=by decide
 have Q:(9223372036854775808:Int) < 18446744073709551616:=by decide
 have q:U=18446744073709551616:=hc
 have G:Hid (9223372036854775808 < 18446744073709551616):=ie (by decide)
 have J:=iw (x+1)
 have H:Hid (((ac U:Nat):Int)=65):=ie (by rw[hc,yV];rfl)
 have F:Hid (U/2^(1:Int).toNat=9223372036854775808):=ie (by rw[q];decide)
 clear hN hE ha hs hL hx hr t g1 g2 S hc R q
 go_enter func161,ntmps161
 go_upto_region 1 with (fail)
 generalize o:(w.alloc _).alloc _=w1 at *;obtain⟨X1,d,f⟩:=Bo.en2 o;replace h:=h.below f.out;clear o;have bA:=X1.cell
 go_wp2_with fail
 refine(bQ h hn HN.out HE.out).mono ?_;rintro l Y ⟨s1,A1,n1,c1,rfl,u,k1,B⟩;clear bA;replace d:=d.b B;replace h:=h.b B;replace f:=aa f B;clear B
 go_upto_region 2 with (fail)
 have X:=d.lt;generalize p:Y.alloc _=w3 at *;obtain⟨g,C⟩:=Bo.nw p;clear p;replace d:=d.b C;replace u:=u.b C;replace f:=aa f C;clear C
 obtain rfl:s1=sg0:=u.2.trans m.out
 have p2:Nm w3 A1 n1 c1 a:=HA.out▸u.1
 have bN:=p2.rd.blen_le
 have fH:n1<=100000:=by omega
 have bC:0 < n1:=p2.pos.2 (by omega)
 clear u m
 have e0:((n1:Int)==0)=false:=by
  have:(n1:Int)≠0:=by omega
  simpa using this
 have bH:n1<=1099511627776:=by omega
 have f1:(s1 !=s1)=false:=by cases s1 <;> rfl
 have f2:(!s1 !=s1)=true:=by cases s1 <;> rfl
 have f3:(s1==s1)=true:=by cases s1 <;> rfl
 have f4:((!s1)==s1)=false:=by cases s1 <;> rfl
 have j:=g.cell
 go_wp2_with fail
 refine(nk p2.rd HL.out).mono ?_;rintro l w4 ⟨rfl,B⟩;clear j;replace d:=d.b B;replace g:=g.b B;replace p2:=p2.b B;replace f:=aa f B;clear B;have j:=g.cell;have t:=HV.out
 go_wp2_with fail
 refine(qL v p2.rd (by omega)).mono ?_;rintro l w5 ⟨A3,n3,c3,rfl,p3,k3,B⟩;clear j;replace d:=d.b B;replace g:=g.b B;replace f:=aa f B;clear B t;rw[I.out]at p3;have j:=g.cell;have V:=M.out;have W:=O.out
 go_wp2_with fail
 clear V W;refine(kf (p3.rd.below (af _ _)) (jF _) (by omega) (by omega) HU.out).mono ?_;rintro l w6 ⟨A4,n4,c4,rfl,D,k4,B⟩;replace B:=bt (af _ _) B;clear j;replace d:=d.b B;replace g:=g.b B;replace f:=aa f B;clear B
 have fP:n3<=100000:=by omega
 go_wp2_with fail
 refine(nk D.rd H.out).mono ?_;rintro l w7 ⟨rfl,B⟩;replace d:=d.b B;replace g:=g.b B;replace D:=D.b B;replace f:=aa f B;clear B
 go_wp2_with fail
 refine(qL 1 D.rd (by omega)).mono ?_;rintro l gB ⟨A5,n5,c5,rfl,p5,k5,B⟩;replace d:=d.b B;replace g:=g.b B;replace f:=aa f B;clear B;rw[F.out]at p5;have T:=J.out
 go_upto_region 15 with (fail)
 clear T;have p9:=p5;refine jk [0,1,2,3,4,5,6,7] [some 71,some 72,some 73,some 74,some 75,some 76,some 77,some 78,none] [[],[0],[1],[],[3],[],[],[2,4,5,6],[]] 9 1 [Jo.qp Y.heap.size 0,Jo.qp Y.heap.size 0,Jo.qb s1,Jo.Fact.eq (.slice A5 n5 c5),Jo.Fact.eq (.int .u64 9223372036854775808),Jo.Fact.eq (.int .i64 (x+1)),Jo.qb true,Jo.Fact.num r,Jo.Fact.any] ?_ ?_
 ·iterate 2 (refine jm ?_ ?_;rotate_left)
  refine jm ?_ ?_
  ·rintro Z k _ rfl K i;simp only[Jo.z]at i|-;have bD:=(g.b k).a 0 (.bool s1) rfl;go_simp;exact i.out _ _ rfl (br _ _)
  refine jm ?_ ?_;rotate_left
  refine jm ?_ ?_
  ·rintro Z k _ rfl K i;simp only[Jo.z]at i|-;go_simp;refine(ri (p9.b k) G.out rfl).mono ?_;rintro l wk ⟨rfl,B⟩;exact i.out _ _ rfl B
  iterate 2 (refine jm ?_ ?_;rotate_left)
  refine jm ?_ ?_
  ·rintro Z k _ rfl _ rfl _ rfl _ rfl K i;simp only[Jo.z]at i|-;go_simp;exact Jo.n1 (CZ P Q HR.out) i.out
  exact jo
  all_goals (rintro Z k;(repeat rintro _ rfl);intro K i;simp only[Jo.z]at i|-;go_simp;exact i.out _ _ rfl (br _ _))
 rintro w8 k _ _ _ _ _ rfl _ rfl _ rfl _ rfl _ rfl _ ⟨K4,s4,M4,E4,rfl,q4⟩ -;simp only[Jo.z];replace d:=d.b k;replace f:=aa f k;have bB:=d.cell;have y:=d.frozen
 refine jn 8 fun K i=>?_
 go_simp;refine i.out _ _ ?_;clear i K bB y;have SX:=ae.t4 d K4 s4 M4 E4;refine jd ?_;go_wp2;exact bq (by simp[results,results161,go_sem,SX.box.cell]) rfl ⟨_,_,_,_,rfl,q4,(SX.below f.out (by omega))⟩
theorem po{w:World}{A:Option Addr}{n c:Nat}{s up:Bool}{z e N E r:Int}(h:Wr w s A n c z)(hn:n<=100000)(hN:(mk z e).1=N)(hE:(mk z e).2=E)(hr:ed up N E=r):
  Calls prog 161 #[.agg #[.bool s,.slice A n c,.int .i64 e],.bool up] w (PN w r):=by
 obtain⟨σ,b⟩:∃σ,decide (N < 0)=σ:=⟨_,rfl⟩
 have j:ac N.natAbs<=3200000:=by
  have hb:=h.rd.blen_le
  have:ac N.natAbs<=ac z.natAbs:=by
   rcases jZ z e with a | ⟨a,h1,h2,k,h4,l,f⟩
   ·rw[a]at hN;rw[<-hN];exact Nat.zero_le _
   ·rw[hN]at f h4;rw[f,bU,fR (by omega)]
    omega
  omega
 by_cases a:N.natAbs=0
 ·have d:N=0:=by omega
  have:r=0:=by
   rw[<-hr,d,gj rfl]
   rfl
  rw[this];exact rj h hn hN hE rfl b a
 ·by_cases hs:σ=up
  ·subst hs;rw[gM b.symm rfl,<-Gz σ a]at hr
   by_cases hl:ac N.natAbs<=64
   ·exact yj h hn hN hE rfl b a rfl (by omega) rfl (by omega) hr
   ·exact yh h hn hN hE rfl b a rfl (by omega) rfl (by omega) hr
  ·obtain rfl:(!σ)=up:=by cases σ <;> cases up <;> first | rfl | exact absurd rfl hs
   rw[gL b.symm]at hr
   by_cases hl:ac N.natAbs<=64
   ·rw[<-wL σ a hl]at hr;exact yi h hn hN hE rfl b a rfl (by omega) rfl (by omega) hr
   ·have g:=fZ N.natAbs
    by_cases i:tp N.natAbs+1 < 2^64
    ·rw[<-GA σ (by omega) i]at hr;exact yg h hn hN hE rfl b a rfl (by omega) rfl (by omega) i hr
    ·rw[<-wK σ (by omega) (by omega)]at hr;exact yf h hn hN hE rfl b a rfl (by omega) rfl (by omega) (by omega) hr
theorem G7{n:Int}(h1: -9223372036854775808<=n)(h2:n<=9223372036854775807):ed true (mk n 0).1 (mk n 0).2=aj (decide (n < 0)) (lo n.natAbs 0):=by
 by_cases g:n=0
 ·subst g;rw[da];rw[gj rfl]
 ·have m:=eJ (n:=n.natAbs) (by omega)
  have j:v2 n.natAbs < 64:=by
   have:2^v2 n.natAbs < 2^64:=by omega
   exact(Nat.pow_lt_pow_iff_right (a:=2) (by decide)).1 this
  obtain⟨e1,e2,e3,d,c⟩:=iu (z:=n) (e:=0) g (by decide) (by omega)
  revert e1 e3 d c
  generalize mk n 0=p;obtain⟨N,E⟩:=p
  intro e1 e3 d c
  simp only at e1 e3 d c|-
  have f:n.natAbs=N.natAbs*2^v2 n.natAbs:=by
   have:=congrArg Int.natAbs c
   rwa [bU]at this
  have b:N.natAbs≠0:=by omega
  have i:ac N.natAbs+v2 n.natAbs<=64:=by
   have h:=fR b (v2 n.natAbs);have l:=ai (n:=n.natAbs) (k:=64) (by omega);rw[<-f]at h
   omega
  have hx:ext N.natAbs E=true:=by
   have e0:(N.natAbs==0)=false:=by simpa using b
   unfold ext xp
   rw[e0,Bool.false_or,dt (by omega),dt (by omega),dt (by omega)]
   rfl
  rw[gj hx,show decide (N < 0)=decide (n < 0) by simp only[e3]]
  congr 1
  have:=rY b (v2 n.natAbs) 0
  rw[<-f]at this;rw[this,e1]
theorem JG{n r:Int}(w:World)(h1: -9223372036854775808<=n)(h2:n<=9223372036854775807)(hr:aj (decide (n < 0)) (lo n.natAbs 0)=r):Calls prog 84 #[.int .i64 n] w (PN w r):=by
 have f:=ie ((G7 h1 h2).trans hr);clear hr;obtain⟨N,h⟩:∃N,(mk n 0).1=N:=⟨_,rfl⟩;obtain⟨E,g⟩:∃E,(mk n 0).2=E:=⟨_,rfl⟩
 have f:=ie (show ed true (mk N E).1 (mk N E).2=r by
  have:=f.out
  rw[<-h,<-g,show mk (mk n 0).1 (mk n 0).2=mk n 0 from ft n 0]
  exact this)
 have m:=ie h;have l:=ie g;clear h g
 go_enter func84,ntmps84
 go_upto_region 1 with (fail)
 generalize d:w.alloc _=w1 at *;obtain⟨a,c⟩:=Bo.en1 d;clear d
 go_wp2_with fail
 refine(gi n _ h1 h2).mono ?_;rintro k v ⟨s1,A1,n1,c1,rfl,q,t,B⟩;replace a:=a.b B;replace c:=aa c B;clear B
 go_wp2_with fail
 refine(bQ q.wr (by omega) m.out l.out).mono ?_;rintro k x ⟨s2,A2,n2,c2,rfl,p2,u,B⟩;replace a:=a.b B;replace c:=aa c B;clear B
 go_wp2_with fail
 refine(po p2.wr (by omega) rfl rfl f.out).mono ?_;rintro k y ⟨o,s3,p,E3,rfl,s,B⟩;replace a:=a.b B;replace c:=aa c B;clear B;have i:=a.cell;have e:=a.frozen;go_wp2;clear i e;have j:=ae.t4 a o s3 p E3;exact bq (by simp[results,results84,go_sem,j.box.cell]) rfl ⟨_,_,_,_,rfl,s,(j.below c.out (by omega))⟩
theorem Ev{w:World}{A B:Option Addr}{n c m d:Nat}{s t:Bool}{z e y f N1 E1 N2 E2:Int}(h:Wr w s A n c z)(k:Wr w t B m d y)(hn:n<=20000)(hm:m<=20000)
  (HN1:Hid ((mk z e).1=N1)) (HE1:Hid ((mk z e).2=E1)) (HN2:Hid ((mk y f).1=N2)) (HE2:Hid ((mk y f).2=E2)) (h1:N1=0):
  Calls prog 225 #[.agg #[.bool s,.slice A n c,.int .i64 e],.agg #[.bool t,.slice B m d,.int .i64 f]] w (D1 w m N2 E2):=by
 go_enter func225,ntmps225
 go_upto_region 1 with (fail)
 generalize r:((w.alloc _).alloc _).alloc _=w1 at *;obtain⟨M,l,g,i⟩:=Bo.en3 r;replace h:=h.below i.out;replace k:=k.below i.out;clear r;have G:=M.cell
 go_wp2_with fail
 refine(bQ h (by omega) HN1.out HE1.out).mono ?_;rintro O L ⟨s1,A1,n1,c1,rfl,o,S,B⟩;clear G;replace l:=l.b B;replace g:=g.b B;replace k:=k.b B;replace i:=aa i B;clear B;have p:=l.cell
 go_upto_region 2 with (fail)
 clear p;have Q:=Nat.le_refl (World.heap L).size;have C:=l.lt;have D:=g.lt;generalize j:L.alloc _=T at *;obtain⟨q,a⟩:=Bo.nw j;clear j;replace l:=l.b a;replace g:=g.b a;replace k:=k.b a;replace o:=o.b a;replace i:=aa i a;clear a;have p:=l.cell
 go_wp2_with fail
 refine(bQ k (by omega) HN2.out HE2.out).mono ?_;rintro O R ⟨s2,A2,n2,c2,rfl,p2,P,B⟩;clear p;replace g:=g.b B;replace q:=q.b B;replace o:=o.b B;replace i:=aa i B;clear B
 go_upto_region 3 with (fail)
 have F:=g.lt;have E:=q.lt;generalize j:R.alloc _=U at *;obtain⟨N,a⟩:=Bo.nw j;clear j;replace g:=g.b a;replace q:=q.b a;replace o:=o.b a;replace p2:=p2.b a;replace i:=aa i a;clear a
 have hz:n1=0:=by have:=o.1.pos;omega
 subst hz;have H:=q.cell;have I:=N.cell;have J:=g.cell;have u:=g.frozen;go_wp2;clear H I J u;have x:=ae.mk3 g (.bool s2) (.slice A2 n2 c2) (.int .i64 E2);replace p2:=p2.s x;exact bq (v:= .agg #[.bool s2,.slice A2 n2 c2,.int .i64 E2]) (by simp[results,results225,go_sem,x.box.cell]) rfl ⟨s2,_,_,_,rfl,p2,P,(x.below i.out (by omega))⟩
theorem Ew{w:World}{A B:Option Addr}{n c m d:Nat}{s t:Bool}{z e y f N1 E1 N2 E2:Int}(h:Wr w s A n c z)(k:Wr w t B m d y)(hn:n<=20000)(hm:m<=20000)
  (HN1:Hid ((mk z e).1=N1)) (HE1:Hid ((mk z e).2=E1)) (HN2:Hid ((mk y f).1=N2)) (HE2:Hid ((mk y f).2=E2)) (h1:N1≠0) (h2:N2=0):
  Calls prog 225 #[.agg #[.bool s,.slice A n c,.int .i64 e],.agg #[.bool t,.slice B m d,.int .i64 f]] w (D1 w n N1 E1):=by
 go_enter func225,ntmps225
 go_upto_region 1 with (fail)
 generalize r:((w.alloc _).alloc _).alloc _=w1 at *;obtain⟨M,o,g,i⟩:=Bo.en3 r;replace h:=h.below i.out;replace k:=k.below i.out;clear r;have G:=M.cell
 go_wp2_with fail
 refine(bQ h (by omega) HN1.out HE1.out).mono ?_;rintro O L ⟨s1,A1,n1,c1,rfl,l,Q,B⟩;clear G;replace o:=o.b B;replace g:=g.b B;replace k:=k.b B;replace i:=aa i B;clear B;have p:=o.cell
 go_upto_region 2 with (fail)
 clear p;have R:=Nat.le_refl (World.heap L).size;have C:=o.lt;have D:=g.lt;generalize j:L.alloc _=V at *;obtain⟨q,a⟩:=Bo.nw j;clear j;replace o:=o.b a;replace g:=g.b a;replace k:=k.b a;replace l:=l.b a;replace i:=aa i a;clear a;have p:=o.cell
 go_wp2_with fail
 refine(bQ k (by omega) HN2.out HE2.out).mono ?_;rintro O S ⟨s2,A2,n2,c2,rfl,p2,T,B⟩;clear p;replace g:=g.b B;replace q:=q.b B;replace l:=l.b B;replace i:=aa i B;clear B
 go_upto_region 3 with (fail)
 have F:=g.lt;have E:=q.lt;generalize j:S.alloc _=W at *;obtain⟨N,a⟩:=Bo.nw j;clear j;replace g:=g.b a;replace q:=q.b a;replace l:=l.b a;replace p2:=p2.b a;replace i:=aa i a;clear a
 have P:0 < n1:=by have:=l.1.pos;omega
 have U:((n1:Int)==0)=false:=by
  have:(n1:Int)≠0:=by omega
  simpa using this
 have la:=l.1.rd.big
 have hz:n2=0:=by have:=p2.1.pos;omega
 subst hz;have H:=q.cell;have I:=N.cell;have J:=g.cell;have u:=g.frozen;go_wp2;clear H I J u;have x:=ae.mk3 g (.bool s1) (.slice A1 n1 c1) (.int .i64 E1);replace l:=l.s x;exact bq (v:= .agg #[.bool s1,.slice A1 n1 c1,.int .i64 E1]) (by simp[results,results225,go_sem,x.box.cell]) rfl ⟨s1,_,_,_,rfl,l,Q,(x.below i.out (by omega))⟩
theorem DB (N:Int){P:Int}(hP:0 < P):N.fdiv P*P<=N/\N < (N.fdiv P+1)*P:=by
 have h1:=Int.mul_fdiv_add_fmod N P;have h2:=Int.fmod_nonneg_of_pos N hP;have a:=Int.fmod_lt_of_pos N hP;rw[Int.mul_comm]at h1;rw[Int.add_mul,Int.one_mul]
 omega
theorem AZ (k:Nat):((2^k:Nat):Int)=2^k:=by simp
theorem GB{p:Int × Int}(hp:Nf p):rL p.1 p.2*2^KK<=vl p/\vl p < (rL p.1 p.2+1)*2^KK:=by
 have b:=hp.bd
 unfold rL vl
 by_cases a:0<=p.2
 ·rw[if_pos a,AZ,Int.mul_assoc,<-Int.pow_add,show p.2.toNat+KK=(p.2+KK).toNat by omega,Int.add_mul,Int.mul_assoc,<-Int.pow_add,show p.2.toNat+KK=(p.2+KK).toNat by omega]
  have:=aB KK
  omega
 ·rw[if_neg a,AZ];obtain⟨h1,h2⟩:=DB p.1 (aB (-p.2).toNat)
  have c:KK=(-p.2).toNat+(p.2+KK).toNat:=by rw[dL];omega
  have hq:=aB (p.2+KK).toNat
  have e:(2:Int)^KK=2^(-p.2).toNat*2^(p.2+KK).toNat:=by rw[<-Int.pow_add,<-c]
  rw[e,<-Int.mul_assoc,<-Int.mul_assoc];exact⟨Int.mul_le_mul_of_nonneg_right h1 (by omega),Int.mul_lt_mul_of_pos_right h2 hq⟩
theorem gk (s:Bool)(x y:Int):aj s x*y=aj s (x*y):=by
 cases s
 ·rfl
 ·exact Int.neg_mul _ _
theorem CR{x:Int}(s:Bool)(h:0 < x):vr (aj s x)=aj s (vp x):=by
 rw[Ii]
 congr 1
 unfold vr
 rw[if_neg (by omega)]
theorem rJ{D:Int}{s:Bool}{M E r:Int}(q:Fq D s M E r)(h1: -19342822337206103650074625 < r)(h2:r < 19342822337206103650074625):lW D s M E=true/\vl (jp D s M E)=vr r:=by
 have hb:lW D s M E=true:=by
  unfold lW
  rw[dt q.1,Bool.true_and]
  rcases q.cases with⟨rfl,rfl,rfl,rfl,i⟩ | ⟨rfl,_⟩ | ⟨rfl,rfl,rfl,⟨rfl,c⟩ | ⟨rfl,c⟩⟩
  ·rfl
  ·rfl
  ·omega
  ·omega
 refine⟨hb,?_⟩
 unfold jp
 rw[if_pos hb];have a:=q.2.2
 rcases q.1 with⟨rfl,rfl,rfl,rfl⟩ | ⟨rfl,g1,g2,g3⟩ | ⟨rfl,rfl,rfl⟩
 ·obtain rfl:0=r:=a
  have e0:aj false 0=0:=if_neg (by decide)
  rw[e0,da,kq]
  rfl
 ·have d:=q.2.1
  have b:plc 1 M E=M-9223372036854775808+1+(E+1048576)*9223372036854775808:=rfl
  rw[b]at a
  have f:(aj s M).natAbs=M.toNat:=by
   cases s
   ·show M.natAbs=M.toNat;omega
   ·show (-M).natAbs=M.toNat;omega
  obtain⟨η,j⟩:∃η:Nat,4194304=η:=⟨_,rfl⟩
  have g:=kG (z:=aj s M) (e:=E) (h:=η) (by omega) (by omega) (by
   rw[f]
   have:M.toNat < 2^64:=by omega
   have:=Nat.mul_lt_mul_of_pos_right this (Nat.pow_pos (n:=(E+(η:Int)).toNat) (show 0 < 2 by decide))
   rw[<-Nat.pow_add]at this;exact Nat.lt_of_lt_of_le this (Nat.pow_le_pow_right (by decide) (by omega)))
  rw[g.2,<-a,CR s (by omega),dK g1 d (by omega),gk]
 ·exfalso
  have:r=aj s TP:=a.symm
  have:=dj
  cases s
  ·have e:aj false TP=TP:=if_neg (by decide)
   omega
  ·have e:aj true TP= -TP:=if_pos rfl
   omega
theorem D9{m:Nat}{E:Int}(h1:9223372036854775808<=m)(h2:m < 18446744073709551616)(h3: -1048576<=E)(h4:E<=1048576):lo m E=(m:Int)-9223372036854775808+1+(E+1048576)*9223372036854775808:=by
 have hb:ac m=64:=i9 (k:=63) (by omega) (by omega) (by omega)
 have hx:xp m E=E:=by unfold xp;rw[hb];omega
 have ht:tp m=m:=by
  rw[fo (by omega),hb,Nat.sub_self,Nat.pow_zero,Nat.mul_one]
 unfold lo
 rw[if_neg (by omega),hx,if_neg (by omega),if_neg (by omega),ht]
theorem yU{m k t:Nat}{E F:Int}(hm:m=k*2^t)(h1:9223372036854775808<=m)(h2:m < 18446744073709551616)(h3: -1048576<=E)(h4:E<=1048576)(hF:F=E+(t:Nat)):ext k F=true/\lo k F=lo m E:=by
 have hb:ac m=64:=i9 (k:=63) (by omega) (by omega) (by omega)
 have a:k≠0:=fun e=>by rw[e,Nat.zero_mul]at hm;omega
 have b:=fR a t;rw[<-hm,hb]at b;refine⟨?_,?_⟩
 ·have e0:(k==0)=false:=by simpa using a
  unfold ext xp
  rw[e0,Bool.false_or,dt (by omega),dt (by omega),dt (by omega)]
  rfl
 ·rw[hm,rY a,hF]
theorem yT{s:Bool}{M E:Int}(up:Bool)(g1:9223372036854775808<=M)(hM:LQ M)(g2: -1048576<=E)(g3:E<=1048576){z:Int}(hz:z.natAbs=M.toNat)(hs:decide (z < 0)=s):ed up (mk z E).1 (mk z E).2=aj s (M-9223372036854775808+1+(E+1048576)*9223372036854775808):=by
 have f:z≠0:=by omega
 have i:=eJ (n:=z.natAbs) (by omega)
 have g:v2 z.natAbs < 64:=(Nat.pow_lt_pow_iff_right (a:=2) (by decide)).1 (show 2^v2 z.natAbs < 2^64 by omega)
 obtain⟨e1,e2,e3,c,b⟩:=iu (z:=z) (e:=E) f (by omega) (by omega)
 revert e1 e3 c b
 generalize mk z E=p;obtain⟨N,F⟩:=p
 intro e1 e3 c b
 simp only at e1 e3 c b|-
 have d:z.natAbs=N.natAbs*2^v2 z.natAbs:=by
  have:=congrArg Int.natAbs b
  rwa [bU]at this
 obtain⟨h,x2⟩:=yU d (by omega) (by omega) g2 g3 e1
 rw[gj h,x2,D9 (by omega) (by omega) g2 g3,show decide (N < 0)=s by rw[<-hs];simp only[e3],show ((z.natAbs:Nat):Int)=M by omega]
theorem fX (up:Bool):ed up 0 0=0:=by
 rw[gj rfl]
 rfl
theorem B8{D:Int}{s:Bool}{M E r:Int}(up:Bool)(q:Fq D s M E r)(hx:lW D s M E=true):ed up (jp D s M E).1 (jp D s M E).2=r:=by
 unfold jp
 rw[if_pos hx];have b:=q.2.2
 rcases q.1 with⟨rfl,rfl,rfl,rfl⟩ | ⟨rfl,g1,g2,g3⟩ | ⟨rfl,rfl,rfl⟩
 ·obtain rfl:0=r:=b
  have e0:aj false 0=0:=if_neg (by decide)
  rw[e0,da];exact fX up
 ·have c:=q.2.1
  have a:plc 1 M E=M-9223372036854775808+1+(E+1048576)*9223372036854775808:=rfl
  rw[a]at b;rw[<-b];refine yT up g1 c g2 g3 ?_ ?_
  ·cases s
   ·rw[show aj false M=M from if_neg (by decide)];omega
   ·rw[show aj true M= -M from if_pos rfl];omega
  ·cases s
   ·rw[show aj false M=M from if_neg (by decide)];exact df (by omega)
   ·rw[show aj true M= -M from if_pos rfl];exact dt (by omega)
 ·exact absurd hx (by unfold lW;simp)
def ak (n:Int):Int:=aj (decide (n < 0)) (lo n.natAbs 0)
theorem mr:ak 0=0:=rfl
theorem eN{n:Int}(h1: -9223372036854775808<=n)(h2:n<=9223372036854775807):vr (ak n)=n*2^KK:=by
 by_cases a:n=0
 ·subst a;rw[mr,Int.zero_mul]
  rfl
 ·have q:=FO a h1 h2;have hs:=Bm a h1 h2;have a3:=ai (n:=n.natAbs) (k:=64) (by omega)
  have c:_=ak n:=q.2.2
  have g:=q.plc (by decide)
  rcases g with⟨_,g1,g2,g3,g4,g5⟩ | ⟨g,_⟩
  ·rw[<-c,CR _ (by rw[g5];omega),g5,dK g1 g2 (by omega),<-hs,Int.mul_assoc,<-Int.pow_add,show (64-(ac n.natAbs:Int)).toNat+(-(64-(ac n.natAbs:Int))+(KK:Int)).toNat=KK by rw[dL];omega,<-gk]
   congr 1
   by_cases b:n < 0
   ·rw[dt b];show -(n.natAbs:Int)=n;omega
   ·rw[df b];show (n.natAbs:Int)=n;omega
  ·exact absurd g (by decide)
theorem Em{a b:Int}(h1: -9223372036854775808<=a)(h2:a<=9223372036854775807)(k1: -9223372036854775808<=b)(k2:b<=9223372036854775807):ag (ak a) (ak b)=ag a b:=by
 rw[<-Ig,eN h1 h2,eN k1 k2,rz (aB KK)]
theorem vE{n:Int}(h0:n≠0)(l:Int):aj (decide (-n < 0)) l= -aj (decide (n < 0)) l:=by
 by_cases hn:n < 0
 ·rw[dt hn,df (show ¬ -n < 0 by omega),show aj false l=l from if_neg (by decide),show aj true l= -l from if_pos rfl,Int.neg_neg]
 ·rw[df hn,dt (show -n < 0 by omega),show aj false l=l from if_neg (by decide),show aj true l= -l from if_pos rfl]
theorem Eo (n:Int):ak (-n)= -ak n:=by
 by_cases h0:n=0
 ·rw[h0,Int.neg_zero,mr,Int.neg_zero]
 ·unfold ak
  rw[Int.natAbs_neg];exact vE h0 _
