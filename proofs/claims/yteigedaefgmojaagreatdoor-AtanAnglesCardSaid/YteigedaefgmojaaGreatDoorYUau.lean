/-
 Contracts that the proof rests on.
-/
import Derived.Test.YteigedaefgmojaaGreatDoorYUat
namespace Go.Proofs.YteigedaefgmojaaGreatDoor
open Go.Proofs.Tryz
open Go.RowKit
set_option linter.unusedVariables false
theorem ac.trans{w w' w'':World}{g:Nat}{a b c:Array Value}{T:TypeId}(h:ac w w' g a b T)(k:ac w' w'' g b c T):ac w w'' g a c T:=
 ⟨h.1,k.2.1,fun j hj=>(k.2.2.1 j hj).trans (h.2.2.1 j hj),fun B x hB hb=>k.2.2.2 B x hB (h.2.2.2 B x hB hb)⟩
theorem ac.mk9{w:World}{g:Nat}{T:TypeId}{a0 a1 a2 a3 a4 a5 a6 a7 a8:Value}(X:Bo w g #[a0,a1,a2,a3,a4,a5,a6,a7,a8] T)(v0 v1 v2 v3 v4 v5 v6 v7 v8:Value):
  ac w (((((((((w.setCell ⟨g,0,none⟩ v0).setCell ⟨g,1,none⟩ v1).setCell ⟨g,2,none⟩ v2).setCell ⟨g,3,none⟩ v3).setCell ⟨g,4,none⟩ v4).setCell ⟨g,5,none⟩ v5).setCell ⟨g,6,none⟩ v6).setCell ⟨g,7,none⟩ v7).setCell ⟨g,8,none⟩ v8) g #[a0,a1,a2,a3,a4,a5,a6,a7,a8] #[v0,v1,v2,v3,v4,v5,v6,v7,v8] T:=by
 have c:ac w (w.setCell ⟨g,0,none⟩ v0) g #[a0,a1,a2,a3,a4,a5,a6,a7,a8] #[v0,a1,a2,a3,a4,a5,a6,a7,a8] T:=ac.at4 X 0 v0
 have a:=c
 have d:ac (w.setCell ⟨g,0,none⟩ v0) ((w.setCell ⟨g,0,none⟩ v0).setCell ⟨g,1,none⟩ v1) g #[v0,a1,a2,a3,a4,a5,a6,a7,a8] #[v0,v1,a2,a3,a4,a5,a6,a7,a8] T:=ac.at4 a.box 1 v1
 have s1:=a.trans d
 have e:ac ((w.setCell ⟨g,0,none⟩ v0).setCell ⟨g,1,none⟩ v1) (((w.setCell ⟨g,0,none⟩ v0).setCell ⟨g,1,none⟩ v1).setCell ⟨g,2,none⟩ v2) g #[v0,v1,a2,a3,a4,a5,a6,a7,a8] #[v0,v1,v2,a3,a4,a5,a6,a7,a8] T:=ac.at4 s1.box 2 v2
 have s2:=s1.trans e
 have f:ac (((w.setCell ⟨g,0,none⟩ v0).setCell ⟨g,1,none⟩ v1).setCell ⟨g,2,none⟩ v2) ((((w.setCell ⟨g,0,none⟩ v0).setCell ⟨g,1,none⟩ v1).setCell ⟨g,2,none⟩ v2).setCell ⟨g,3,none⟩ v3) g #[v0,v1,v2,a3,a4,a5,a6,a7,a8] #[v0,v1,v2,v3,a4,a5,a6,a7,a8] T:=ac.at4 s2.box 3 v3
 have s3:=s2.trans f
 have h:ac ((((w.setCell ⟨g,0,none⟩ v0).setCell ⟨g,1,none⟩ v1).setCell ⟨g,2,none⟩ v2).setCell ⟨g,3,none⟩ v3) (((((w.setCell ⟨g,0,none⟩ v0).setCell ⟨g,1,none⟩ v1).setCell ⟨g,2,none⟩ v2).setCell ⟨g,3,none⟩ v3).setCell ⟨g,4,none⟩ v4) g #[v0,v1,v2,v3,a4,a5,a6,a7,a8] #[v0,v1,v2,v3,v4,a5,a6,a7,a8] T:=ac.at4 s3.box 4 v4
 have s4:=s3.trans h
 have i:ac (((((w.setCell ⟨g,0,none⟩ v0).setCell ⟨g,1,none⟩ v1).setCell ⟨g,2,none⟩ v2).setCell ⟨g,3,none⟩ v3).setCell ⟨g,4,none⟩ v4) ((((((w.setCell ⟨g,0,none⟩ v0).setCell ⟨g,1,none⟩ v1).setCell ⟨g,2,none⟩ v2).setCell ⟨g,3,none⟩ v3).setCell ⟨g,4,none⟩ v4).setCell ⟨g,5,none⟩ v5) g #[v0,v1,v2,v3,v4,a5,a6,a7,a8] #[v0,v1,v2,v3,v4,v5,a6,a7,a8] T:=ac.at4 s4.box 5 v5
 have s5:=s4.trans i
 have j:ac ((((((w.setCell ⟨g,0,none⟩ v0).setCell ⟨g,1,none⟩ v1).setCell ⟨g,2,none⟩ v2).setCell ⟨g,3,none⟩ v3).setCell ⟨g,4,none⟩ v4).setCell ⟨g,5,none⟩ v5) (((((((w.setCell ⟨g,0,none⟩ v0).setCell ⟨g,1,none⟩ v1).setCell ⟨g,2,none⟩ v2).setCell ⟨g,3,none⟩ v3).setCell ⟨g,4,none⟩ v4).setCell ⟨g,5,none⟩ v5).setCell ⟨g,6,none⟩ v6) g #[v0,v1,v2,v3,v4,v5,a6,a7,a8] #[v0,v1,v2,v3,v4,v5,v6,a7,a8] T:=ac.at4 s5.box 6 v6
 have s6:=s5.trans j
 have k:ac (((((((w.setCell ⟨g,0,none⟩ v0).setCell ⟨g,1,none⟩ v1).setCell ⟨g,2,none⟩ v2).setCell ⟨g,3,none⟩ v3).setCell ⟨g,4,none⟩ v4).setCell ⟨g,5,none⟩ v5).setCell ⟨g,6,none⟩ v6) ((((((((w.setCell ⟨g,0,none⟩ v0).setCell ⟨g,1,none⟩ v1).setCell ⟨g,2,none⟩ v2).setCell ⟨g,3,none⟩ v3).setCell ⟨g,4,none⟩ v4).setCell ⟨g,5,none⟩ v5).setCell ⟨g,6,none⟩ v6).setCell ⟨g,7,none⟩ v7) g #[v0,v1,v2,v3,v4,v5,v6,a7,a8] #[v0,v1,v2,v3,v4,v5,v6,v7,a8] T:=ac.at4 s6.box 7 v7
 have s7:=s6.trans k
 have l:ac ((((((((w.setCell ⟨g,0,none⟩ v0).setCell ⟨g,1,none⟩ v1).setCell ⟨g,2,none⟩ v2).setCell ⟨g,3,none⟩ v3).setCell ⟨g,4,none⟩ v4).setCell ⟨g,5,none⟩ v5).setCell ⟨g,6,none⟩ v6).setCell ⟨g,7,none⟩ v7) (((((((((w.setCell ⟨g,0,none⟩ v0).setCell ⟨g,1,none⟩ v1).setCell ⟨g,2,none⟩ v2).setCell ⟨g,3,none⟩ v3).setCell ⟨g,4,none⟩ v4).setCell ⟨g,5,none⟩ v5).setCell ⟨g,6,none⟩ v6).setCell ⟨g,7,none⟩ v7).setCell ⟨g,8,none⟩ v8) g #[v0,v1,v2,v3,v4,v5,v6,v7,a8] #[v0,v1,v2,v3,v4,v5,v6,v7,v8] T:=ac.at4 s7.box 8 v8
 have b:=s7.trans l;exact b
def Ci (e:Bool)(K:Int)(s:Bool)(M E K':Int)(s':Bool)(M' E':Int):Sp->Prop
 | none=>e=true/\Fq K s M E 0/\Fq K' s' M' E' 0
 | some (a,b)=>e=false/\Fq K s M E a/\Fq K' s' M' E' b/\a<=b/\a < 19342822337206103650074625/\ -19342822337206103650074625 < b
section
variable {e e2:Bool} {K M E K' M' E' K2 M2 E2 K2' M2' E2':Int} {s s' s2 s2':Bool} {x y:Sp}
theorem Ci.top (h:Ci e K s M E K' s' M' E' x):M < 18446744073709551616/\M' < 18446744073709551616:=by
 rcases x with _ | ⟨a,b⟩
 ·exact⟨h.2.1.top,h.2.2.top⟩
 ·exact⟨h.2.1.top,h.2.2.1.top⟩
theorem Ci.uniq (h:Ci e K s M E K' s' M' E' x)(k:Ci e2 K2 s2 M2 E2 K2' s2' M2' E2' x):e=e2/\K=K2/\s=s2/\M=M2/\E=E2/\K'=K2'/\s'=s2'/\M'=M2'/\E'=E2':=by
 rcases x with _ | ⟨a,b⟩
 ·obtain⟨h1,l,m⟩:=h;obtain⟨i,j,p2⟩:=k;obtain⟨c1,c2,c3,c4⟩:=l.uniq j;obtain⟨c,d,f,g⟩:=m.uniq p2;exact⟨h1.trans i.symm,c1,c2,c3,c4,c,d,f,g⟩
 ·obtain⟨h1,l,m,_⟩:=h;obtain⟨i,j,p2,_⟩:=k;obtain⟨c1,c2,c3,c4⟩:=l.uniq j;obtain⟨c,d,f,g⟩:=m.uniq p2;exact⟨h1.trans i.symm,c1,c2,c3,c4,c,d,f,g⟩
end
theorem Ci.none:Ci true 0 false 0 0 0 false 0 0 none:=⟨rfl,Fq.nought,Fq.nought⟩
def iJ (e:Bool)(K:Int)(s:Bool)(M E K':Int)(s':Bool)(M' E':Int):Sp:=if e=true then none else if au K s M E/\au K' s' M' E' then eH (rk K s M E) (rk K' s' M' E')else none
def jU (e:Bool)(K:Int)(s:Bool)(M E K':Int)(s':Bool)(M' E':Int):Bool:=if e=true then (decide (K=0/\s=false/\M=0/\E=0) && decide (K'=0/\s'=false/\M'=0/\E'=0))else decide (iJ e K s M E K' s' M' E'≠none)
section
variable {e:Bool} {K M E K' M' E':Int} {s s':Bool} {x:Sp}
theorem wz:iJ true K s M E K' s' M' E'=none:=if_pos rfl
theorem mZ:iJ false K s M E K' s' M' E'=if au K s M E/\au K' s' M' E' then eH (rk K s M E) (rk K' s' M' E')else none:=if_neg ff
theorem pG (hM:LQ M)(hM':LQ M'):aZ (iJ e K s M E K' s' M' E'):=by
 cases e
 ·rw[mZ]
  by_cases h:au K s M E/\au K' s' M' E'
  ·rw[if_pos h];exact BM (eD hM h.1).bd.1 (eD hM' h.2).bd.2
  ·rw[if_neg h];exact trivial
 ·exact trivial
theorem lS (hM:LQ M)(hM':LQ M')(h:jU e K s M E K' s' M' E'=true):Ci e K s M E K' s' M' E' (iJ e K s M E K' s' M' E'):=by
 unfold jU at h
 cases e
 ·rw[if_neg ff,decide_eq_true_iff]at h;rw[mZ]at h|-
  by_cases hq:au K s M E/\au K' s' M' E'
  ·rw[if_pos hq]at h|-
   by_cases a:rk K s M E<=rk K' s' M' E'/\rk K s M E < 19342822337206103650074625/\ -19342822337206103650074625 < rk K' s' M' E'
   ·rw[aI a.1 a.2.1 a.2.2];exact⟨rfl,eD hM hq.1,eD hM' hq.2,a⟩
   ·exact absurd (dx a) h
  ·rw[if_neg hq]at h;exact absurd rfl h
 ·rw[if_pos rfl,Bool.and_eq_true,decide_eq_true_iff,decide_eq_true_iff]at h;obtain⟨⟨rfl,rfl,rfl,rfl⟩,rfl,rfl,rfl,rfl⟩:=h;exact Ci.none
theorem lT (h:jU e K s M E K' s' M' E'=false):iJ e K s M E K' s' M' E'=none:=by
 cases e
 ·unfold jU at h
  rw[if_neg ff,decide_eq_false_iff_not]at h;exact Decidable.not_not.1 h
 ·exact wz
theorem Ci.rk (h:Ci e K s M E K' s' M' E' x):iJ e K s M E K' s' M' E'=x:=by
 rcases x with _ | ⟨a,b⟩
 ·obtain⟨rfl,_⟩:=h;exact wz
 ·obtain⟨rfl,c,d,h1,h2,f⟩:=h;rw[mZ,if_pos ⟨c.1,d.1⟩,c.rk,d.rk,aI h1 h2 f]
theorem Ci.may (h:Ci e K s M E K' s' M' E' x):jU e K s M E K' s' M' E'=true:=by
 have c:=h.rk
 unfold jU
 rcases x with _ | ⟨a,b⟩
 ·obtain⟨rfl,d,f⟩:=h;obtain⟨rfl,rfl,rfl,rfl⟩:=d.uniq Fq.nought;obtain⟨rfl,rfl,rfl,rfl⟩:=f.uniq Fq.nought
  rfl
 ·obtain⟨rfl,_⟩:=h;rw[if_neg ff,c]
  rfl
end
def PV (w:World)(x:Sp)(e:Ending)(w':World):Prop:=∃e0 K s M E K' s' M' E',e= .returned (.agg #[.bool e0,.int .i64 K,.bool s,.int .u64 M,.int .i64 E,.int .i64 K',.bool s',.int .u64 M',.int .i64 E'])/\Ci e0 K s M E K' s' M' E' x/\Below w.heap.size w w'
def Jo.Fact.iv (x:Sp):Jo.Fact:=⟨fun v w=>∃e0 K s M E K' s' M' E',v= .agg #[.bool e0,.int .i64 K,.bool s,.int .u64 M,.int .i64 E,.int .i64 K',.bool s',.int .u64 M',.int .i64 E']/\Ci e0 K s M E K' s' M' E' x,fun v w w' h b=>h⟩
def kJ (w:World)(A:Option Addr)(n c:Nat)(l:List Sp):Prop:=
 l.length=n/\n<=c/\n<=1099511627776/\(0 < n->∃b o,A=some ⟨b,o,none⟩/\∀k,k < n->∃e K s M E K' s' M' E',w.cell? ⟨b,o+k*9,none⟩=some (.bool e)/\w.cell? ⟨b,o+k*9+1,none⟩=some (.int .i64 K)/\w.cell? ⟨b,o+k*9+2,none⟩=some (.bool s)/\w.cell? ⟨b,o+k*9+3,none⟩=some (.int .u64 M)/\w.cell? ⟨b,o+k*9+4,none⟩=some (.int .i64 E)/\w.cell? ⟨b,o+k*9+5,none⟩=some (.int .i64 K')/\w.cell? ⟨b,o+k*9+6,none⟩=some (.bool s')/\w.cell? ⟨b,o+k*9+7,none⟩=some (.int .u64 M')/\w.cell? ⟨b,o+k*9+8,none⟩=some (.int .i64 E')/\M < 18446744073709551616/\M' < 18446744073709551616/\iJ e K s M E K' s' M' E'=l.getD k none)
theorem kJ.below{w w':World}{A:Option Addr}{n c:Nat}{l:List Sp}(h:kJ w A n c l)(hb:Below w.heap.size w w'):kJ w' A n c l:=by
 obtain⟨h1,h2,f,h4⟩:=h
 refine⟨h1,h2,f,fun hn=>?_⟩
 obtain⟨b,o,e,j⟩:=h4 hn
 refine⟨b,o,e,fun k hk=>?_⟩
 obtain⟨e,K,s,M,E,K',s',M',E',c0,c1,c2,c3,c4,c5,c6,c7,d,g,a,m⟩:=j k hk
 have t:∀{i:Nat} {v:Value},w.cell? ⟨b,i,none⟩=some v->w'.cell? ⟨b,i,none⟩=some v:=fun c=>(hb.cell (p:=⟨b,_,none⟩) (block_lt_of_cell c)).trans c
 exact⟨e,K,s,M,E,K',s',M',E',t c0,t c1,t c2,t c3,t c4,t c5,t c6,t c7,t d,g,a,m⟩
abbrev kJ.b:= @kJ.below
instance {w w':World} {A:Option Addr} {n c:Nat} {l:List Sp}:Mv (kJ w A n c l) w w' (kJ w' A n c l):=⟨fun h b=>h.below b⟩
theorem kJ.ok{w:World}{A:Option Addr}{n c:Nat}{l:List Sp}(h:kJ w A n c l):∀y ∈ l,aZ y:=by
 intro y hy
 obtain⟨k,g,e⟩:=List.getElem_of_mem hy;obtain⟨h1,h2,j,h4⟩:=h;obtain⟨b,o,_,f⟩:=h4 (by omega);obtain⟨e0,K,s,M,E,K',s',M',E',_,_,_,_,_,_,_,_,_,d,a,i⟩:=f k (by omega)
 have:l.getD k none=y:=by
  rw[List.getD_eq_getElem?_getD,List.getElem?_eq_getElem g,e]
  rfl
 rw[<-this,<-i];exact pG d a
end Go.Proofs.YteigedaefgmojaaGreatDoor
namespace Go.Proofs.YteigedaefgmojaaGreatDoor
open Go.Proofs.Tryz
open Go.RowKit
set_option linter.unusedVariables false
theorem ac.of9{w w1:World}{g:Nat}{T:TypeId}{a0 a1 a2 a3 a4 a5 a6 a7 a8 v0 v1 v2 v3 v4 v5 v6 v7 v8:Value}(X:Bo w g #[a0,a1,a2,a3,a4,a5,a6,a7,a8] T)(h:((((((((w.setCell ⟨g,0,none⟩ v0).setCell ⟨g,1,none⟩ v1).setCell ⟨g,2,none⟩ v2).setCell ⟨g,3,none⟩ v3).setCell ⟨g,4,none⟩ v4).setCell ⟨g,5,none⟩ v5).setCell ⟨g,6,none⟩ v6).setCell ⟨g,7,none⟩ v7).setCell ⟨g,8,none⟩ v8=w1):ac w w1 g #[a0,a1,a2,a3,a4,a5,a6,a7,a8] #[v0,v1,v2,v3,v4,v5,v6,v7,v8] T:=h▸ac.mk9 X v0 v1 v2 v3 v4 v5 v6 v7 v8
open Go in
theorem Jo.v1{P:Program}{f:FuncId}{a:Array Value}{w:World}{Q:Ending->World->Prop}{R:Value->World->Prop}{z:Sp}(h:Calls P f a w (PV w z))(hR:∀v w',(Jo.Fact.iv z).P v w'->Jo.Grow w w'->R v w')(hQ:∀v w',R v w'->Q (.returned v) w':=by exact fun _ _ h=>h):Calls P f a w Q:=by
 refine h.mono ?_
 rintro e w' ⟨e0,K,s,M,E,K',s',M',E',rfl,p,B⟩
 exact hQ _ _ (hR _ _ ⟨e0,K,s,M,E,K',s',M',E',rfl,p⟩ B)
theorem ac.t9{w:World}{g:Nat}{T:TypeId}{a0 a1 a2 a3 a4 a5 a6 a7 a8:Value}(X:Bo w g #[a0,a1,a2,a3,a4,a5,a6,a7,a8] T)(e:Bool)(K:Int)(s:Bool)(M E K':Int)(s':Bool)(M' E':Int):ac w (((((((((w.setCell ⟨g,0,none⟩ (.bool e)).setCell ⟨g,1,none⟩ (.int .i64 K)).setCell ⟨g,2,none⟩ (.bool s)).setCell ⟨g,3,none⟩ (.int .u64 M)).setCell ⟨g,4,none⟩ (.int .i64 E)).setCell ⟨g,5,none⟩ (.int .i64 K')).setCell ⟨g,6,none⟩ (.bool s')).setCell ⟨g,7,none⟩ (.int .u64 M')).setCell ⟨g,8,none⟩ (.int .i64 E')) g #[a0,a1,a2,a3,a4,a5,a6,a7,a8] #[.bool e,.int .i64 K,.bool s,.int .u64 M,.int .i64 E,.int .i64 K',.bool s',.int .u64 M',.int .i64 E'] T:=ac.mk9 X _ _ _ _ _ _ _ _ _
end Go.Proofs.YteigedaefgmojaaGreatDoor
namespace Go.Proofs.YteigedaefgmojaaGreatDoor
open Go.Proofs.Tryz
set_option maxHeartbeats 2000000
open Go.RowKit
set_option linter.unusedVariables false
set_option linter.unusedSimpArgs false
set_option maxRecDepth 100000
theorem gq (s:Bool):Fq 2 s 0 0 (aj s TP):=⟨.inr (.inr ⟨rfl,rfl,rfl⟩),by decide,by
 cases s <;> rfl⟩
theorem rQ{w:World}(s:Bool):Calls prog 106 #[.bool s] w (fun e w'=>e= .returned (.agg #[.int .i64 2,.bool s,.int .u64 0,.int .i64 0])/\Below w.heap.size w w'):=by
 refine(nV (s:=s) rfl).mono ?_;rintro a b ⟨K,s1,M,E,rfl,q,B⟩;obtain⟨rfl,rfl,rfl,rfl⟩:=q.uniq (gq s);exact⟨rfl,B⟩
theorem kV{w:World}:Calls prog 35 #[] w (PV w none):=by
 go_enter func35,ntmps35
 go_upto_region 1 with fail
 generalize a:w.alloc _=w1 at *;obtain⟨c,f⟩:=Bo.en1 a;clear a;have d:=c.cell;have b:=c.frozen;go_wp2;clear d b;have e:=ac.t9 c true 0 false 0 0 0 false 0 0;exact bq (by simp[results,results35,go_sem,e.box.cell]) rfl ⟨_,_,_,_,_,_,_,_,_,rfl,Ci.none,(e.below f.out (by omega))⟩
theorem lQ{w:World}:Calls prog 35 #[] w (fun e w'=>e= .returned (.agg #[.bool true,.int .i64 0,.bool false,.int .u64 0,.int .i64 0,.int .i64 0,.bool false,.int .u64 0,.int .i64 0])/\Below w.heap.size w w'):=by
 refine kV.mono ?_;rintro j k ⟨e1,h,s1,i,g,b,d,c,a,rfl,f,B⟩;obtain⟨rfl,rfl,rfl,rfl,rfl,rfl,rfl,rfl,rfl⟩:=f.uniq Ci.none;exact⟨rfl,B⟩
theorem EN{w:World}{D M E D' M' E':Int}{s s':Bool}{r:Bool}(hr:jU true D s M E D' s' M' E'=r):Calls prog 110 #[VI true D s M E D' s' M' E'] w (PB w r):=by
 delta VI
 have i:=ie hr;clear hr
 go_enter func110,ntmps110
 go_upto_region 1 with fail
 generalize d:w.alloc _=w1 at *;obtain⟨g,f⟩:=Bo.en1 d;clear d;have e:=g.cell
 go_upto_region 2 with fail
 clear e;refine bF [0,1,2,3] [8,9,10,3] [[],[],[0,1],[2]] 4 0 [Jo.q9 true D s M E D' s' M' E',Jo.q9 true 0 false 0 0 0 false 0 0,Jo.qb r,Jo.qb r] ?_ ?_
 ·refine jm ?_ ?_;rotate_left
  refine jm ?_ ?_
  ·rintro h a K c;go_simp;refine(lQ).mono ?_;rintro j l ⟨rfl,B⟩;exact c.out _ _ rfl B
  refine jm ?_ ?_
  ·rintro h a _ rfl _ rfl K c;go_simp
   repeat' split
   all_goals exact c.out _ _ (congrArg Value.bool (by rw[<-i.out];unfold jU;simp[*])) (br _ _)
  refine jm ?_ ?_;rotate_left
  exact jo
  all_goals (rintro h a;(repeat rintro _ rfl);intro K c;have e:=(g.b a).cell;go_simp;exact c.out _ _ rfl (br _ _))
 rintro k a _ rfl _ rfl _ rfl _ rfl -;simp only[Jo.z];replace f:=ak f a;refine jd ?_;go_wp2
 go_ret
 exact⟨rfl,f.out⟩
theorem Bq{w:World}{D M E D' M' E':Int}{s s':Bool}(hM:(M:Int) < 18446744073709551616)(hM':(M':Int) < 18446744073709551616)(hp:decide (au D s M E)=false){q:Bool}(hq:decide (au D' s' M' E')=q):Calls prog 110 #[VI false D s M E D' s' M' E'] w (PB w false):=by
 delta VI
 have g:=ie hp;have h:=ie hq;clear hp hq
 go_enter func110,ntmps110
 go_upto_region 1 with fail
 generalize e:w.alloc _=w1 at *;obtain⟨d,c⟩:=Bo.en1 e;clear e;have a:=d.cell
 go_wp2_with fail
 refine(dD g.out).mono ?_;rintro i k ⟨rfl,B⟩;clear a;replace d:=d.b B;replace c:=ak c B;clear B;have a:=d.cell
 go_wp2_with fail
 refine(dD h.out).mono ?_;rintro i l ⟨rfl,B⟩;clear a;replace d:=d.b B;replace c:=ak c B;clear B;have a:=d.cell
 go_upto_region 5 with fail
 clear a;refine bF [0,1,2,3,4,5,6,7,8,9,10,11,12,13,14,15,16,17,18,19,20,21,22,23,24] [17,18,19,20,21,22,23,24,25,26,27,28,29,30,31,32,33,34,35,36,37,38,39,40,3] [[],[0],[1],[1,2],[3],[4],[4,5],[4],[4,7],[4,6,8],[4,9],[4,10],[11],[12],[12,13],[12],[12,14,15],[12,16],[17],[18],[18,19],[18],[18,20,21],[18,22],[23]] 25 0 [Jo.qb false,Jo.qb false,Jo.qu,Jo.qb false,Jo.qb false,Jo.qu,Jo.qu,Jo.qu,Jo.qu,Jo.qu,Jo.qu,Jo.qb false,Jo.qb false,Jo.qu,Jo.qu,Jo.qu,Jo.qu,Jo.qb false,Jo.qb false,Jo.qu,Jo.qu,Jo.qu,Jo.qu,Jo.qb false,Jo.qb false] ?_ ?_
 ·iterate 25 (refine jm ?_ ?_;rotate_left)
  exact jo
  all_goals (rintro n f;(repeat rintro _ rfl);intro K j;go_simp;exact j.out _ _ rfl (br _ _))
 rintro m f _ rfl _ rfl _ rfl _ rfl _ rfl _ rfl _ rfl _ rfl _ rfl _ rfl _ rfl _ rfl _ rfl _ rfl _ rfl _ rfl _ rfl _ rfl _ rfl _ rfl _ rfl _ rfl _ rfl _ rfl _ rfl -;simp only[Jo.z];replace c:=ak c f;refine jd ?_;go_wp2
 go_ret
 exact⟨rfl,c.out⟩
theorem Br{w:World}{D M E D' M' E':Int}{s s':Bool}(hM:(M:Int) < 18446744073709551616)(hM':(M':Int) < 18446744073709551616)(hp:decide (au D s M E)=true)(hq:decide (au D' s' M' E')=false):Calls prog 110 #[VI false D s M E D' s' M' E'] w (PB w false):=by
 delta VI
 have g:=ie hp;have h:=ie hq;clear hp hq
 go_enter func110,ntmps110
 go_upto_region 1 with fail
 generalize e:w.alloc _=w1 at *;obtain⟨d,c⟩:=Bo.en1 e;clear e;have a:=d.cell
 go_wp2_with fail
 refine(dD g.out).mono ?_;rintro i k ⟨rfl,B⟩;clear a;replace d:=d.b B;replace c:=ak c B;clear B;have a:=d.cell
 go_wp2_with fail
 refine(dD h.out).mono ?_;rintro i l ⟨rfl,B⟩;clear a;replace d:=d.b B;replace c:=ak c B;clear B;have a:=d.cell
 go_upto_region 5 with fail
 clear a;refine bF [0,1,2,3,4,5,6,7,8,9,10,11,12,13,14,15,16,17,18,19,20,21,22,23,24] [17,18,19,20,21,22,23,24,25,26,27,28,29,30,31,32,33,34,35,36,37,38,39,40,3] [[],[0],[1],[1,2],[3],[4],[4,5],[4],[4,7],[4,6,8],[4,9],[4,10],[11],[12],[12,13],[12],[12,14,15],[12,16],[17],[18],[18,19],[18],[18,20,21],[18,22],[23]] 25 0 [Jo.qb true,Jo.qb true,Jo.qb false,Jo.qb false,Jo.qb false,Jo.qu,Jo.qu,Jo.qu,Jo.qu,Jo.qu,Jo.qu,Jo.qb false,Jo.qb false,Jo.qu,Jo.qu,Jo.qu,Jo.qu,Jo.qb false,Jo.qb false,Jo.qu,Jo.qu,Jo.qu,Jo.qu,Jo.qb false,Jo.qb false] ?_ ?_
 ·iterate 25 (refine jm ?_ ?_;rotate_left)
  exact jo
  all_goals (rintro n f;(repeat rintro _ rfl);intro K j;go_simp;exact j.out _ _ rfl (br _ _))
 rintro m f _ rfl _ rfl _ rfl _ rfl _ rfl _ rfl _ rfl _ rfl _ rfl _ rfl _ rfl _ rfl _ rfl _ rfl _ rfl _ rfl _ rfl _ rfl _ rfl _ rfl _ rfl _ rfl _ rfl _ rfl _ rfl -;simp only[Jo.z];replace c:=ak c f;refine jd ?_;go_wp2
 go_ret
 exact⟨rfl,c.out⟩
theorem Bp{w:World}{D M E D' M' E' c:Int}{s s':Bool}(hM:(M:Int) < 18446744073709551616)(hM':(M':Int) < 18446744073709551616)(hp:decide (au D s M E)=true)(hq:decide (au D' s' M' E')=true)(hc:ag (rk D s M E) (rk D' s' M' E')=c)(hc0:decide (c<=0)=false):Calls prog 110 #[VI false D s M E D' s' M' E'] w (PB w false):=by
 delta VI
 have m:=ie hp;have n:=ie hq;have l:=ie hc;have i:=ie hc0;clear hp hq hc hc0
 go_enter func110,ntmps110
 go_upto_region 1 with fail
 generalize h:w.alloc _=w1 at *;obtain⟨d,e⟩:=Bo.en1 h;clear h;have a:=d.cell
 go_wp2_with fail
 refine(dD m.out).mono ?_;rintro j o ⟨rfl,B⟩;clear a;replace d:=d.b B;replace e:=ak e B;clear B;have a:=d.cell
 go_wp2_with fail
 refine(dD n.out).mono ?_;rintro j p ⟨rfl,B⟩;clear a;replace d:=d.b B;replace e:=ak e B;clear B;have a:=d.cell
 go_upto_region 5 with fail
 clear a;refine bF [0,1,2,3,4,5,6,7,8,9,10,11,12,13,14,15,16,17,18,19,20,21,22,23,24] [17,18,19,20,21,22,23,24,25,26,27,28,29,30,31,32,33,34,35,36,37,38,39,40,3] [[],[0],[1],[1,2],[3],[4],[4,5],[4],[4,7],[4,6,8],[4,9],[4,10],[11],[12],[12,13],[12],[12,14,15],[12,16],[17],[18],[18,19],[18],[18,20,21],[18,22],[23]] 25 0 [Jo.qb true,Jo.qb true,Jo.qb true,Jo.qb true,Jo.qb true,Jo.qp w.heap.size 1,Jo.q4 D s M E,Jo.qp w.heap.size 5,Jo.q4 D' s' M' E',Jo.qi c,Jo.qb false,Jo.qb false,Jo.qb false,Jo.qu,Jo.qu,Jo.qu,Jo.qu,Jo.qb false,Jo.qb false,Jo.qu,Jo.qu,Jo.qu,Jo.qu,Jo.qb false,Jo.qb false] ?_ ?_
 ·iterate 9 (refine jm ?_ ?_;rotate_left)
  refine jm ?_ ?_
  ·rintro k f _ rfl _ rfl _ rfl K g;go_simp;refine(nA hM hM' l.out).mono ?_;rintro j r ⟨rfl,B⟩;exact g.out _ _ rfl B
  refine jm ?_ ?_
  ·rintro k f _ rfl _ rfl K g;have hc0:=i.out;go_simp
   exact g.out _ _ (by first | rfl | (show Value.bool _=Value.bool _;rw[hc0]) | simp_all) (br _ _)
  iterate 14 (refine jm ?_ ?_;rotate_left)
  exact jo
  all_goals (rintro k f;(repeat rintro _ rfl);intro K g;have a:=(d.b f).cell;go_simp;exact g.out _ _ rfl (br _ _))
 rintro q f _ rfl _ rfl _ rfl _ rfl _ rfl _ _ _ rfl _ _ _ rfl _ rfl _ rfl _ rfl _ rfl _ rfl _ rfl _ rfl _ rfl _ rfl _ rfl _ rfl _ rfl _ rfl _ rfl _ rfl _ rfl -;simp only[Jo.z];replace e:=ak e f;refine jd ?_;go_wp2
 go_ret
 exact⟨rfl,e.out⟩
theorem Bs{w:World}{D' M' E' c:Int}{s':Bool}(hM:(0:Int) < 18446744073709551616)(hM':(M':Int) < 18446744073709551616)(hq:decide (au D' s' M' E')=true)(hc:ag (rk 2 false 0 0) (rk D' s' M' E')=c)(hc0:decide (c<=0)=true):Calls prog 110 #[VI false 2 false 0 0 D' s' M' E'] w (PB w false):=by
 delta VI
 have n:Hid (decide (au 2 false 0 0)=true):=ie (by decide)
 have k:=ie trivial;have o:=ie hq;have m:=ie hc;have j:=ie hc0;clear hq hc hc0
 go_enter func110,ntmps110
 go_upto_region 1 with fail
 generalize h:w.alloc _=w1 at *;obtain⟨e,f⟩:=Bo.en1 h;clear h;have a:=e.cell
 go_wp2_with fail
 refine(dD n.out).mono ?_;rintro l r ⟨rfl,B⟩;clear a;replace e:=e.b B;replace f:=ak f B;clear B;have a:=e.cell
 go_wp2_with fail
 refine(dD o.out).mono ?_;rintro l s ⟨rfl,B⟩;clear a;replace e:=e.b B;replace f:=ak f B;clear B;have a:=e.cell
 go_upto_region 5 with fail
 clear a;refine bF [0,1,2,3,4,5,6,7,8,9,10,11,12,13,14,15,16,17,18,19,20,21,22,23,24] [17,18,19,20,21,22,23,24,25,26,27,28,29,30,31,32,33,34,35,36,37,38,39,40,3] [[],[0],[1],[1,2],[3],[4],[4,5],[4],[4,7],[4,6,8],[4,9],[4,10],[11],[12],[12,13],[12],[12,14,15],[12,16],[17],[18],[18,19],[18],[18,20,21],[18,22],[23]] 25 0 [Jo.qb true,Jo.qb true,Jo.qb true,Jo.qb true,Jo.qb true,Jo.qp w.heap.size 1,Jo.q4 2 false 0 0,Jo.qp w.heap.size 5,Jo.q4 D' s' M' E',Jo.qi c,Jo.qb true,Jo.qb true,Jo.qb true,Jo.qp w.heap.size 1,Jo.q4 2 false 0 0,Jo.q4 2 false 0 0,Jo.qb false,Jo.qb false,Jo.qb false,Jo.qu,Jo.qu,Jo.qu,Jo.qu,Jo.qb false,Jo.qb false] ?_ ?_
 ·iterate 9 (refine jm ?_ ?_;rotate_left)
  refine jm ?_ ?_
  ·rintro i g _ rfl _ rfl _ rfl K d;go_simp;refine(nA hM hM' m.out).mono ?_;rintro l q ⟨rfl,B⟩;exact d.out _ _ rfl B
  refine jm ?_ ?_
  ·rintro i g _ rfl _ rfl K d;have hc0:=j.out;go_simp
   exact d.out _ _ (by first | rfl | (show Value.bool _=Value.bool _;rw[hc0]) | simp_all) (br _ _)
  iterate 4 (refine jm ?_ ?_;rotate_left)
  refine jm ?_ ?_
  ·rintro i g _ rfl K d;go_simp;refine(rQ false).mono ?_;rintro l q ⟨rfl,B⟩;exact d.out _ _ rfl B
  refine jm ?_ ?_
  ·rintro i g _ rfl _ rfl _ rfl K d;have p:=k.out;go_simp
   repeat' split
   all_goals exact d.out _ _ (congrArg Value.bool (by first | rfl | (exfalso;simp_all))) (br _ _)
  iterate 8 (refine jm ?_ ?_;rotate_left)
  exact jo
  all_goals (rintro i g;(repeat rintro _ rfl);intro K d;have a:=(e.b g).cell;go_simp;exact d.out _ _ rfl (br _ _))
 rintro t g _ rfl _ rfl _ rfl _ rfl _ rfl _ _ _ rfl _ _ _ rfl _ rfl _ rfl _ rfl _ rfl _ _ _ rfl _ rfl _ rfl _ rfl _ rfl _ rfl _ rfl _ rfl _ rfl _ rfl _ rfl -;simp only[Jo.z];replace f:=ak f g;refine jd ?_;go_wp2
 go_ret
 exact⟨rfl,f.out⟩
theorem Bn{w:World}{D M E c:Int}{s:Bool}(hM:(M:Int) < 18446744073709551616)(hM':(0:Int) < 18446744073709551616)(hp:decide (au D s M E)=true)(hc:ag (rk D s M E) (rk 2 true 0 0)=c)(hc0:decide (c<=0)=true)(h1:¬(D=2/\s=false/\M=0/\E=0)):Calls prog 110 #[VI false D s M E 2 true 0 0] w (PB w false):=by
 delta VI
 have r:Hid (decide (au 2 true 0 0)=true):=ie (by decide)
 have m:=ie trivial;have q:=ie hp;have p:=ie hc;have k:=ie hc0;have l:=ie h1;clear hp hc hc0 h1
 go_enter func110,ntmps110
 go_upto_region 1 with fail
 generalize i:w.alloc _=w1 at *;obtain⟨f,g⟩:=Bo.en1 i;clear i;have d:=f.cell
 go_wp2_with fail
 refine(dD q.out).mono ?_;rintro j t ⟨rfl,B⟩;clear d;replace f:=f.b B;replace g:=ak g B;clear B;have d:=f.cell
 go_wp2_with fail
 refine(dD r.out).mono ?_;rintro j u ⟨rfl,B⟩;clear d;replace f:=f.b B;replace g:=ak g B;clear B;have d:=f.cell
 go_upto_region 5 with fail
 clear d;refine bF [0,1,2,3,4,5,6,7,8,9,10,11,12,13,14,15,16,17,18,19,20,21,22,23,24] [17,18,19,20,21,22,23,24,25,26,27,28,29,30,31,32,33,34,35,36,37,38,39,40,3] [[],[0],[1],[1,2],[3],[4],[4,5],[4],[4,7],[4,6,8],[4,9],[4,10],[11],[12],[12,13],[12],[12,14,15],[12,16],[17],[18],[18,19],[18],[18,20,21],[18,22],[23]] 25 0 [Jo.qb true,Jo.qb true,Jo.qb true,Jo.qb true,Jo.qb true,Jo.qp w.heap.size 1,Jo.q4 D s M E,Jo.qp w.heap.size 5,Jo.q4 2 true 0 0,Jo.qi c,Jo.qb true,Jo.qb true,Jo.qb true,Jo.qp w.heap.size 1,Jo.q4 D s M E,Jo.q4 2 false 0 0,Jo.qb true,Jo.qb true,Jo.qb true,Jo.qp w.heap.size 5,Jo.q4 2 true 0 0,Jo.q4 2 true 0 0,Jo.qb false,Jo.qb false,Jo.qb false] ?_ ?_
 ·iterate 9 (refine jm ?_ ?_;rotate_left)
  refine jm ?_ ?_
  ·rintro h e _ rfl _ rfl _ rfl K a;go_simp;refine(nA hM hM' p.out).mono ?_;rintro j o ⟨rfl,B⟩;exact a.out _ _ rfl B
  refine jm ?_ ?_
  ·rintro h e _ rfl _ rfl K a;have hc0:=k.out;go_simp
   exact a.out _ _ (by first | rfl | (show Value.bool _=Value.bool _;rw[hc0]) | simp_all) (br _ _)
  iterate 4 (refine jm ?_ ?_;rotate_left)
  refine jm ?_ ?_
  ·rintro h e _ rfl K a;go_simp;refine(rQ false).mono ?_;rintro j o ⟨rfl,B⟩;exact a.out _ _ rfl B
  refine jm ?_ ?_
  ·rintro h e _ rfl _ rfl _ rfl K a;have n:=l.out;go_simp
   repeat' split
   all_goals exact a.out _ _ (congrArg Value.bool (by first | rfl | (exfalso;simp_all))) (br _ _)
  iterate 4 (refine jm ?_ ?_;rotate_left)
  refine jm ?_ ?_
  ·rintro h e _ rfl K a;go_simp;refine(rQ true).mono ?_;rintro j o ⟨rfl,B⟩;exact a.out _ _ rfl B
  refine jm ?_ ?_
  ·rintro h e _ rfl _ rfl _ rfl K a;have n:=m.out;go_simp
   repeat' split
   all_goals exact a.out _ _ (congrArg Value.bool (by first | rfl | (exfalso;simp_all))) (br _ _)
  iterate 2 (refine jm ?_ ?_;rotate_left)
  exact jo
  all_goals (rintro h e;(repeat rintro _ rfl);intro K a;have d:=(f.b e).cell;go_simp;exact a.out _ _ rfl (br _ _))
 rintro v e _ rfl _ rfl _ rfl _ rfl _ rfl _ _ _ rfl _ _ _ rfl _ rfl _ rfl _ rfl _ rfl _ _ _ rfl _ rfl _ rfl _ rfl _ rfl _ _ _ rfl _ rfl _ rfl _ rfl _ rfl -;simp only[Jo.z];replace g:=ak g e;refine jd ?_;go_wp2
 go_ret
 exact⟨rfl,g.out⟩
theorem Bt{w:World}{D M E D' M' E' c:Int}{s s':Bool}(hM:(M:Int) < 18446744073709551616)(hM':(M':Int) < 18446744073709551616)(hp:decide (au D s M E)=true)(hq:decide (au D' s' M' E')=true)(hc:ag (rk D s M E) (rk D' s' M' E')=c)(hc0:decide (c<=0)=true)(h1:¬(D=2/\s=false/\M=0/\E=0))(h2:¬(D'=2/\s'=true/\M'=0/\E'=0)):Calls prog 110 #[VI false D s M E D' s' M' E'] w (PB w true):=by
 delta VI
 have q:=ie hp;have r:=ie hq;have p:=ie hc;have k:=ie hc0;have l:=ie h1;have m:=ie h2;clear hp hq hc hc0 h1 h2
 go_enter func110,ntmps110
 go_upto_region 1 with fail
 generalize i:w.alloc _=w1 at *;obtain⟨f,g⟩:=Bo.en1 i;clear i;have d:=f.cell
 go_wp2_with fail
 refine(dD q.out).mono ?_;rintro j t ⟨rfl,B⟩;clear d;replace f:=f.b B;replace g:=ak g B;clear B;have d:=f.cell
 go_wp2_with fail
 refine(dD r.out).mono ?_;rintro j u ⟨rfl,B⟩;clear d;replace f:=f.b B;replace g:=ak g B;clear B;have d:=f.cell
 go_upto_region 5 with fail
 clear d;refine bF [0,1,2,3,4,5,6,7,8,9,10,11,12,13,14,15,16,17,18,19,20,21,22,23,24] [17,18,19,20,21,22,23,24,25,26,27,28,29,30,31,32,33,34,35,36,37,38,39,40,3] [[],[0],[1],[1,2],[3],[4],[4,5],[4],[4,7],[4,6,8],[4,9],[4,10],[11],[12],[12,13],[12],[12,14,15],[12,16],[17],[18],[18,19],[18],[18,20,21],[18,22],[23]] 25 0 [Jo.qb true,Jo.qb true,Jo.qb true,Jo.qb true,Jo.qb true,Jo.qp w.heap.size 1,Jo.q4 D s M E,Jo.qp w.heap.size 5,Jo.q4 D' s' M' E',Jo.qi c,Jo.qb true,Jo.qb true,Jo.qb true,Jo.qp w.heap.size 1,Jo.q4 D s M E,Jo.q4 2 false 0 0,Jo.qb true,Jo.qb true,Jo.qb true,Jo.qp w.heap.size 5,Jo.q4 D' s' M' E',Jo.q4 2 true 0 0,Jo.qb true,Jo.qb true,Jo.qb true] ?_ ?_
 ·iterate 9 (refine jm ?_ ?_;rotate_left)
  refine jm ?_ ?_
  ·rintro h e _ rfl _ rfl _ rfl K a;go_simp;refine(nA hM hM' p.out).mono ?_;rintro j o ⟨rfl,B⟩;exact a.out _ _ rfl B
  refine jm ?_ ?_
  ·rintro h e _ rfl _ rfl K a;have hc0:=k.out;go_simp
   exact a.out _ _ (by first | rfl | (show Value.bool _=Value.bool _;rw[hc0]) | simp_all) (br _ _)
  iterate 4 (refine jm ?_ ?_;rotate_left)
  refine jm ?_ ?_
  ·rintro h e _ rfl K a;go_simp;refine(rQ false).mono ?_;rintro j o ⟨rfl,B⟩;exact a.out _ _ rfl B
  refine jm ?_ ?_
  ·rintro h e _ rfl _ rfl _ rfl K a;have n:=l.out;go_simp
   repeat' split
   all_goals exact a.out _ _ (congrArg Value.bool (by first | rfl | (exfalso;simp_all))) (br _ _)
  iterate 4 (refine jm ?_ ?_;rotate_left)
  refine jm ?_ ?_
  ·rintro h e _ rfl K a;go_simp;refine(rQ true).mono ?_;rintro j o ⟨rfl,B⟩;exact a.out _ _ rfl B
  refine jm ?_ ?_
  ·rintro h e _ rfl _ rfl _ rfl K a;have n:=m.out;go_simp
   repeat' split
   all_goals exact a.out _ _ (congrArg Value.bool (by first | rfl | (exfalso;simp_all))) (br _ _)
  iterate 2 (refine jm ?_ ?_;rotate_left)
  exact jo
  all_goals (rintro h e;(repeat rintro _ rfl);intro K a;have d:=(f.b e).cell;go_simp;exact a.out _ _ rfl (br _ _))
 rintro v e _ rfl _ rfl _ rfl _ rfl _ rfl _ _ _ rfl _ _ _ rfl _ rfl _ rfl _ rfl _ rfl _ _ _ rfl _ rfl _ rfl _ rfl _ rfl _ _ _ rfl _ rfl _ rfl _ rfl _ rfl -;simp only[Jo.z];replace g:=ak g e;refine jd ?_;go_wp2
 go_ret
 exact⟨rfl,g.out⟩
theorem C7{D:Int}{s:Bool}{M E:Int}(hM:LQ M)(h:au D s M E)(b:Bool):rk D s M E=aj b TP↔(D=2/\s=b/\M=0/\E=0):=by
 constructor
 ·intro e
  have q:=eD hM h;rw[e]at q;exact q.uniq (gq b)
 ·rintro ⟨rfl,rfl,rfl,rfl⟩;exact(gq s).rk
theorem Gw{w:World}{e:Bool}{D M E D' M' E':Int}{s s':Bool}{r:Bool}(hM:LQ M)(hM':LQ M')(hr:jU e D s M E D' s' M' E'=r):Calls prog 110 #[VI e D s M E D' s' M' E'] w (PB w r):=by
 delta VI
 cases e
 ·have e0:decide (iJ false D s M E D' s' M' E'≠none)=r:=by rw[<-hr];exact(if_neg ff).symm
  rw[mZ]at e0
  by_cases hp:au D s M E
  ·by_cases hq:au D' s' M' E'
   ·rw[if_pos ⟨hp,hq⟩]at e0;have n:=(eD hM hp).bd;have o:=(eD hM' hq).bd;have h:=C7 hM hp false;have i:=C7 hM' hq true
    have m:aj false TP=19342822337206103650074625:=rfl
    have tt:aj true TP= -19342822337206103650074625:=rfl
    rw[m]at h;rw[tt]at i;have f:=dt hp;have g:=dt hq
    by_cases j:rk D s M E<=rk D' s' M' E'
    ·have d:decide (ag (rk D s M E) (rk D' s' M' E')<=0)=true:=dt (by rcases aU (rk D s M E) (rk D' s' M' E')with ⟨a,b⟩ | ⟨a,b⟩ | ⟨a,b⟩ <;> rw[b] <;> omega)
     by_cases h1:D=2/\s=false/\M=0/\E=0
     ·have k:=h.2 h1;rw[dx (by omega)]at e0
      obtain rfl:false=r:=e0
      obtain⟨rfl,rfl,rfl,rfl⟩:=h1;exact Bs hM hM' g rfl d
     ·have k:rk D s M E≠19342822337206103650074625:=fun c=>h1 (h.1 c)
      by_cases h2:D'=2/\s'=true/\M'=0/\E'=0
      ·have l:=i.2 h2;rw[dx (by omega)]at e0
       obtain rfl:false=r:=e0
       obtain⟨rfl,rfl,rfl,rfl⟩:=h2;exact Bn hM hM' f rfl d h1
      ·have l:rk D' s' M' E'≠ -19342822337206103650074625:=fun c=>h2 (i.1 c)
       rw[aI j (by omega) (by omega)]at e0
       obtain rfl:true=r:=e0
       exact Bt hM hM' f g rfl d h1 h2
    ·rw[dx (fun c=>j c.1)]at e0
     obtain rfl:false=r:=e0
     exact Bp hM hM' f g rfl (df (by rcases aU (rk D s M E) (rk D' s' M' E')with ⟨a,b⟩ | ⟨a,b⟩ | ⟨a,b⟩ <;> rw[b] <;> omega))
   ·rw[if_neg (fun c=>hq c.2)]at e0
    obtain rfl:false=r:=e0
    exact Br hM hM' (dt hp) (df hq)
  ·rw[if_neg (fun c=>hp c.1)]at e0
   obtain rfl:false=r:=e0
   exact Bq hM hM' (df hp) rfl
 ·exact EN hr
theorem ja{w:World}{e:Bool}{D M E D' M' E':Int}{s s':Bool}{x:Sp}(hM:LQ M)(hM':LQ M')(hr:iJ e D s M E D' s' M' E'=x):Calls prog 46 #[VI e D s M E D' s' M' E'] w (PV w x):=by
 delta VI
 cases hm:jU e D s M E D' s' M' E'
 ·obtain rfl:none=x:=(lT hm).symm.trans hr
  have i:=ie hm;clear hm hr
  go_enter func46,ntmps46
  go_upto_region 1 with fail
  generalize d:(w.alloc _).alloc _=w1 at *;obtain⟨b,a,c⟩:=Bo.en2 d;clear d;have f:=b.cell
  go_wp2_with fail
  refine(Gw hM hM' i.out).mono ?_;rintro k m ⟨rfl,B⟩;clear f;refine aF ?_ b a c B;clear b a c B;intro b a c;clear i hM hM'
  go_wp2_with fail
  refine(lQ).mono ?_;rintro k n ⟨rfl,B⟩;refine aF ?_ b a c B;clear b a c B;intro b a c;have h:=a.cell;have g:=a.frozen;go_wp2;clear h g;have j:=ac.t9 a true 0 false 0 0 0 false 0 0
  exact bq (by simp[results,results46,go_sem,j.box.cell]) rfl ⟨_,_,_,_,_,_,_,_,_,rfl,Ci.none,(j.below c.out (by omega))⟩
 ·have l:=lS hM hM' hm;rw[hr]at l;have i:=ie hm;clear hm hr
  go_enter func46,ntmps46
  go_upto_region 1 with fail
  generalize d:(w.alloc _).alloc _=w1 at *;obtain⟨b,a,c⟩:=Bo.en2 d;clear d;have f:=b.cell
  go_wp2_with fail
  refine(Gw hM hM' i.out).mono ?_;rintro k m ⟨rfl,B⟩;clear f;refine aF ?_ b a c B;clear b a c B;intro b a c;clear i hM hM';have h:=a.cell;have g:=a.frozen;have f:=b.cell;go_wp2
  clear h g f;have j:=ac.t9 a e D s M E D' s' M' E';exact bq (by simp[results,results46,go_sem,j.box.cell]) rfl ⟨_,_,_,_,_,_,_,_,_,rfl,l,(j.below c.out (by omega))⟩
def Jo.Fact.ir (x:Sp):Jo.Fact:=⟨fun v w=>∃e K s M E K' s' M' E',v= .agg #[.bool e,.int .i64 K,.bool s,.int .u64 M,.int .i64 E,.int .i64 K',.bool s',.int .u64 M',.int .i64 E']/\M < 18446744073709551616/\M' < 18446744073709551616/\iJ e K s M E K' s' M' E'=x,fun v w w' h b=>h⟩
theorem Iz{K M E K' M' E':Int}{s s':Bool}{a b:Int}{x:Sp}(q:Fq K s M E a)(q':Fq K' s' M' E' b)(hx:eH a b=x):iJ false K s M E K' s' M' E'=x:=by
 rw[mZ,if_pos ⟨q.1,q'.1⟩,q.rk,q'.rk,hx]
theorem pd{w:World}{D D' M M' E E':Int}{s s':Bool}{a b:Int}{x:Sp}(hM:LQ M)(hM':LQ M')(ha:rk D s M E=a)(hb:rk D' s' M' E'=b)(hx:eH a b=x):Calls prog 98 #[VQ D s M E,VQ D' s' M' E'] w (PV w x):=by
 delta VQ
 have y:=ie ha;have k:=ie hb;have A:=ie hx;clear ha hb hx
 go_enter func98,ntmps98
 go_upto_region 1 with fail
 generalize f:((w.alloc _).alloc _).alloc _=w1 at *;obtain⟨J,L,e,j⟩:=Bo.en3 f;clear f;refine bF [0,1,2,3,4,5] [6,7,8,9,10,11,0] [[],[0],[],[2],[1,3],[4],[]] 7 1 [Jo.q4 D s M E,Jo.Fact.num a,Jo.q4 D' s' M' E',Jo.Fact.num b,Jo.Fact.ir x,Jo.Fact.iv x,Jo.Fact.any] ?_ ?_
 ·refine jm ?_ ?_;rotate_left
  refine jm ?_ ?_
  ·rintro h d _ rfl K c;go_simp;exact Jo.n1 (kj hM y.out) c.out
  refine jm ?_ ?_;rotate_left
  refine jm ?_ ?_
  ·rintro h d _ rfl K c;go_simp;exact Jo.n1 (kj hM' k.out) c.out
  refine jm ?_ ?_
  ·rintro h d _ ⟨B,s1,G,u,rfl,o⟩ _ ⟨K2,s2,M2,E2,rfl,p⟩ K c;go_simp;exact c.out _ _ ⟨_,_,_,_,_,_,_,_,_,rfl,o.top,p.top,Iz o p A.out⟩ (br _ _)
  refine jm ?_ ?_
  ·rintro h d _ ⟨W,U,s4,V,E4,C,Q,H,v,rfl,O,n,P⟩ K c;go_simp;exact Jo.v1 (ja O n P) c.out
  exact jo
  all_goals (rintro h d;(repeat rintro _ rfl);intro K c;have S:=(J.b d).cell;have T:=(L.b d).cell;go_simp;exact c.out _ _ rfl (br _ _))
 rintro X d _ rfl _ ⟨B,s1,G,u,rfl,o⟩ _ rfl _ ⟨K2,s2,M2,E2,rfl,p⟩ _ ⟨_,_,_,_,_,_,_,_,_,rfl,_⟩ _ ⟨N,F,s5,I,E5,l,q,m,i,rfl,R⟩ -;simp only[Jo.z];replace e:=e.b d;replace j:=ak j d;have r:=e.cell;have g:=e.frozen
 refine jn 6 fun K c=>?_
 go_simp;refine c.out _ _ ?_;clear c K r g;have t:=ac.t9 e N F s5 I E5 l q m i;refine jd ?_;go_wp2;exact bq (by simp[results,results98,go_sem,t.box.cell]) rfl ⟨_,_,_,_,_,_,_,_,_,rfl,R,(t.below j.out (by omega))⟩
end Go.Proofs.YteigedaefgmojaaGreatDoor
namespace Go.Proofs.YteigedaefgmojaaGreatDoor
open Go.Proofs.Tryz
open Go Go.RowKit
set_option linter.unusedVariables false
def bO:List Int->Rat->Rat
 | [],_=>0
 | a::p,x=>(a:Rat)+x*bO p x
def fN:List Int->List Int->List Int
 | [],q=>q
 | a::p,[]=>a::p
 | a::p,b::q=>(a+b)::fN p q
def tk (c:Int):List Int->List Int
 | []=>[]
 | a::p=>(c*a)::tk c p
def mN:List Int->List Int->List Int
 | [],_=>[]
 | a::p,q=>fN (tk a q) (0::mN p q)
theorem dH:∀(p q:List Int) (x:Rat),bO (fN p q) x=bO p x+bO q x
 | [],q,x=>by simp only[fN,bO];grind
 | a::p,[],x=>by simp only[fN,bO];grind
 | a::p,b::q,x=>by
  simp only[fN,bO];rw[dH p q x,Rat.intCast_add]
  grind
theorem iB (c:Int):∀(p:List Int) (x:Rat),bO (tk c p) x=(c:Rat)*bO p x
 | [],x=>by simp only[tk,bO];grind
 | a::p,x=>by
  simp only[tk,bO];rw[iB c p x,Rat.intCast_mul]
  grind
theorem jB:∀(p q:List Int) (x:Rat),bO (mN p q) x=bO p x*bO q x
 | [],q,x=>by simp only[mN,bO];grind
 | a::p,q,x=>by
  simp only[mN,bO];rw[dH,iB];simp only[bO];rw[jB p q x]
  grind
def Ir (H K:Int):List Int->List Int
 | []=>[]
 | a::p=>fN [a*K^(p.length+1)] (fN (0::tk K (Ir H K p)) (tk H (Ir H K p)))
theorem th (H K:Int)(hK:(K:Rat)≠0):∀(p:List Int) (x:Rat),bO (Ir H K p) x=bO p (x+(H:Rat) /K)*(K:Rat)^p.length
 | [],x=>by simp only[Ir,bO];grind
 | a::p,x=>by
  simp only[Ir];rw[dH,dH,iB];simp only[bO];rw[iB,th H K hK p x,List.length_cons,Rat.pow_succ,Rat.intCast_mul,Rat.intCast_pow,Rat.pow_succ]
  have e:(H:Rat) /K*K=H:=Rat.div_mul_cancel hK
  generalize (H:Rat) /K=h at *;rw[<-e]
  grind
def gX (B:Nat):List Int->Nat
 | []=>0
 | a::p=>a.natAbs+B*gX B p
theorem aA{b a x e:Rat}(h1: -b<=x)(h2:x<=b)(h3: -a<=e)(h4:e<=a): -(b*a)<=x*e/\x*e<=b*a:=by
 have c:=Rat.mul_nonneg (a:=b-x) (b:=a+e) (by grind) (by grind);have d:=Rat.mul_nonneg (a:=b+x) (b:=a-e) (by grind) (by grind);have f:=Rat.mul_nonneg (a:=b-x) (b:=a-e) (by grind) (by grind);have g:=Rat.mul_nonneg (a:=b+x) (b:=a+e) (by grind) (by grind)
 constructor <;> grind
theorem Ht (a:Int): -((a.natAbs:Nat):Rat)<=(a:Rat)/\(a:Rat)<=((a.natAbs:Nat):Rat):=by
 have h1: -(a.natAbs:Int)<=a:=by omega
 have h2:a<=(a.natAbs:Int):=by omega
 have b:=Rat.intCast_le_intCast.2 h1;have c:=Rat.intCast_le_intCast.2 h2;rw[Rat.intCast_neg]at b;exact⟨b,c⟩
theorem gI{B:Nat}{x:Rat}(h1: -(B:Rat)<=x)(h2:x<=(B:Rat)):∀p:List Int,-((gX B p:Nat):Rat)<=bO p x/\bO p x<=((gX B p:Nat):Rat)
 | []=>by simp only[gX,bO];constructor <;> grind
 | a::p=>by
  obtain⟨i1,i2⟩:=gI h1 h2 p;obtain⟨b,c⟩:=aA h1 h2 i1 i2;obtain⟨a1,a2⟩:=Ht a;simp only[gX,bO];rw[Rat.natCast_add,Rat.natCast_mul]
  constructor <;> grind
def sl:Nat->Int->List Int->List Int
 | 0,c,l=>0::c::l
 | k+1,c,l=>sl k (-c*((2*(k:Int)+3)*(2*k+2))) (0::c::l)
def TL:List Int:=sl 40 1 []
abbrev QH:Int:=181885788445883162140117471388864931326696688664196214979386075558969447233092
abbrev QK:Int:=2^256
def JQ (c:Int):List Int->List Int
 | []=>[]
 | a::p=>a::tk c (JQ c p)
def dm:List Int->List Int
 | []=>[]
 | _::p=>fN p (0::dm p)
def po (B:Nat):List Int->Nat
 | []=>0
 | _::p=>B*po B p+gX B (dm p)
def rn (p:List Int)(x d:Rat):Rat:=bO p (x+d)-bO p x-d*bO (dm p) x
theorem yI (a:Int)(p:List Int)(x d:Rat):rn (a::p) x d=(x+d)*rn p x d+d*d*bO (dm p) x:=by
 unfold rn
 simp only[dm,bO];rw[dH];simp only[bO];rw[Rat.intCast_zero]
 grind
theorem ib (d:Rat):0<=d*d:=by
 rcases (Rat.le_total:(0:Rat)<=d\/d<=0)with h | h
 ·exact Rat.mul_nonneg h h
 ·have:=Rat.mul_nonneg (a:= -d) (b:= -d) (by grind) (by grind)
  grind
theorem wv{B:Nat}{x d:Rat}(h1: -(B:Rat)<=x)(h2:x<=(B:Rat))(h3: -(B:Rat)<=x+d)(h4:x+d<=(B:Rat)):∀p:List Int,-(d*d*((po B p:Nat):Rat))<=rn p x d/\rn p x d<=d*d*((po B p:Nat):Rat)
 | []=>by
  unfold rn
  simp only[po,bO,dm]
  have e:((0:Nat):Rat)=0:=rfl
  rw[e]
  constructor <;> grind
 | a::p=>by
  obtain⟨i1,i2⟩:=wv h1 h2 h3 h4 p;obtain⟨i,j⟩:=aA h3 h4 i1 i2;obtain⟨c,f⟩:=gI h1 h2 (dm p);have s:=ib d;have g:=Rat.mul_nonneg s (b:=((gX B (dm p):Nat):Rat)-bO (dm p) x) (by grind);have h:=Rat.mul_nonneg s (b:=((gX B (dm p):Nat):Rat)+bO (dm p) x) (by grind);rw[yI];simp only[po];rw[Rat.natCast_add,Rat.natCast_mul]
  generalize ((gX B (dm p):Nat):Rat)=u at *;generalize bO (dm p) x=v at *;generalize rn p x d=r at *;generalize ((po B p:Nat):Rat)=t at *;generalize (B:Rat)=b at *
  constructor <;> grind
abbrev DD:Int:=5797126020747367985879734231578109105412357244731625958745865049716390179693892056256184534249745940480000000000000000000
def TH:List Int:=Ir QH QK TL
def E3:List Int:=fN (fN (tk (QK^164) (mN TL TL)) (mN TH TH)) [-(DD*DD*QK^164)]
def E4:List Int:=fN (tk (DD*QK^82) (JQ 2 TL)) (tk (-2) (mN TL TH))
def E5:List Int:=fN (fN (mN TL TL) (mN (dm TL) (dm TL))) [-(DD*DD)]
theorem DE:TL.length=82:=by decide +kernel
theorem As:gX 2 E3*2^240<=(DD*DD*QK^164).natAbs:=Nat.le_of_ble_eq_true (by decide +kernel)
theorem At:gX 2 E5*2^200<=(DD*DD).natAbs:=Nat.le_of_ble_eq_true (by decide +kernel)
def ao (x:Rat):Rat:=bO TL x/ (DD:Int)
def bl (x:Rat):Rat:=bO (dm TL) x/ (DD:Int)
def qt:Rat:=(QH:Rat) / (QK:Int)
theorem mn:(0:Rat) < ((DD:Int):Rat):=by
 have h:(0:Int) < DD:=by decide
 exact Rat.intCast_lt_intCast.2 h
theorem CT:(0:Rat) < ((QK:Int):Rat):=by
 have h:(0:Int) < QK:=by decide
 exact Rat.intCast_lt_intCast.2 h
theorem gi{u v:Rat}{n:Nat}{m:Int}{k:Nat}(hm:0 < m)(h:n*2^k<=m.natAbs)(h1: -((n:Nat):Rat)<=u)(h2:u<=((n:Nat):Rat))(e:v*(m:Rat)=u): -1<=v*2^k/\v*2^k<=1:=by
 have d:(0:Rat) < (m:Rat):=Rat.intCast_lt_intCast.2 hm
 have e2:((m.natAbs:Int))=m:=by omega
 have c:((n:Nat):Rat)*2^k<=(m:Rat):=by
  have f:=Rat.natCast_le_natCast.2 h;rw[Rat.natCast_mul,Rat.natCast_pow]at f
  have e3:((m.natAbs:Nat):Rat)=(m:Rat):=by
   rw[<-e2]
   rfl
  rw[e3]at f;exact f
 have p2:(0:Rat) < 2^k:=Rat.pow_pos (by decide)
 have g:=Rat.mul_nonneg (a:=(n:Rat)-u) (b:=2^k) (by grind) (Rat.le_of_lt p2);have i:=Rat.mul_nonneg (a:=(n:Rat)+u) (b:=2^k) (by grind) (Rat.le_of_lt p2)
 have g1:v*2^k*(m:Rat)<=1*(m:Rat):=by grind
 have g2: -1*(m:Rat)<=v*2^k*(m:Rat):=by grind
 exact⟨Rat.le_of_mul_le_mul_right g2 d,Rat.le_of_mul_le_mul_right g1 d⟩
theorem rA (k:Rat)(n:Nat):∀m:Nat,k^(n+m)=k^n*k^m
 | 0=>by rw[Nat.add_zero,Rat.pow_zero];grind
 | m+1=>by
  rw[show n+(m+1)=(n+m)+1 from rfl,Rat.pow_succ,Rat.pow_succ,rA k n m]
  grind
theorem ft (x:Rat):ao x*((DD:Int):Rat)=bO TL x:=Rat.div_mul_cancel (Rat.ne_of_gt mn)
theorem kO (x:Rat):bl x*((DD:Int):Rat)=bO (dm TL) x:=Rat.div_mul_cancel (Rat.ne_of_gt mn)
theorem GQ (x:Rat):bO TH x=ao (x+qt)*((DD:Int):Rat)*((QK:Int):Rat)^82:=by
 unfold TH
 rw[th QH QK (Rat.ne_of_gt CT),DE,ft]
 rfl
theorem Hf{x:Rat}(h1: -2<=x)(h2:x<=2): -1<=(ao x*ao x+ao (x+qt)*ao (x+qt)-1)*2^240/\(ao x*ao x+ao (x+qt)*ao (x+qt)-1)*2^240<=1:=by
 obtain⟨a,b⟩:=gI (B:=2) (x:=x) h1 h2 E3;refine gi (m:=DD*DD*QK^164) (by decide +kernel) As a b ?_
 have e:bO E3 x=((QK^164:Int):Rat)*(bO TL x*bO TL x)+bO TH x*bO TH x+((-(DD*DD*QK^164):Int):Rat):=by
  unfold E3
  rw[dH,dH,iB,jB,jB];simp only[bO]
  grind
 rw[e,GQ,<-ft,Rat.intCast_neg,Rat.intCast_mul,Rat.intCast_mul,Rat.intCast_pow,show (164:Nat)=82+82 from rfl,rA]
 generalize ((QK:Int):Rat)^82=k;generalize ((DD:Int):Rat)=d;generalize ao x=s;generalize ao (x+qt)=c
 grind
theorem vk{x:Rat}(h1: -2<=x)(h2:x<=2): -1<=(ao x*ao x+bl x*bl x-1)*2^200/\(ao x*ao x+bl x*bl x-1)*2^200<=1:=by
 obtain⟨a,b⟩:=gI (B:=2) (x:=x) h1 h2 E5;refine gi (m:=DD*DD) (by decide +kernel) At a b ?_
 have e:bO E5 x=bO TL x*bO TL x+bO (dm TL) x*bO (dm TL) x+((-(DD*DD):Int):Rat):=by
  unfold E5
  rw[dH,dH,jB,jB];simp only[bO]
  grind
 rw[e,<-ft,<-kO,Rat.intCast_neg,Rat.intCast_mul];generalize ((DD:Int):Rat)=d;generalize ao x=s;generalize bl x=c
 grind
theorem Dq (x:Rat):∀(k:Nat) (c:Int) (l:List Int),bO l (-x)= -bO l x->bO (sl k c l) (-x)= -bO (sl k c l) x
 | 0,c,l,h=>by
  simp only[sl,bO];rw[h,Rat.intCast_zero]
  grind
 | k+1,c,l,h=>by
  simp only[sl];refine Dq x k _ _ ?_;simp only[bO];rw[h,Rat.intCast_zero]
  grind
theorem pV (x:Rat):ao (-x)= -ao x:=by
 have h:=Dq x 40 1 [] (by simp only[bO];grind);have a:=ft x;have b:=ft (-x)
 have c:bO TL (-x)= -bO TL x:=h
 have d:=mn
 unfold ao
 rw[c,Rat.div_def,Rat.div_def]
 grind
def tt (c y:Rat):Nat->Rat
 | 0=>c*y
 | k+1=> -(tt c y k*(y*y)) / (((2*((k:Int)+1))*(2*((k:Int)+1)+1):Int):Rat)
def ss (c y:Rat):Nat->Rat
 | 0=>c*y
 | k+1=>ss c y k+tt c y (k+1)
def nC:Nat->Int->Int
 | 0,c=>c
 | k+1,c=>nC k (-c*((2*(k:Int)+3)*(2*k+2)))
theorem Cn (k:Nat):(0:Int) < (2*((k:Int)+1))*(2*((k:Int)+1)+1):=Int.mul_pos (by omega) (by omega)
theorem GM (y:Rat):∀(k:Nat) (c:Int) (l:List Int),tt (nC k c) y k=(c:Rat)*(y*(y*y)^k)/\bO (sl k c l) y=ss (nC k c) y k+(y*y)^(k+1)*bO l y
 | 0,c,l=>by
  simp only[tt,ss,nC,sl,bO];rw[Rat.intCast_zero,Rat.pow_succ,Rat.pow_zero]
  constructor <;> grind
 | k+1,c,l=>by
  obtain⟨a,b⟩:=GM y k (-c*((2*(k:Int)+3)*(2*k+2))) (0::c::l)
  have f:((((2*((k:Int)+1))*(2*((k:Int)+1)+1):Int)):Rat)≠0:=Rat.ne_of_gt (Rat.intCast_lt_intCast.2 (Cn k))
  have hi:(-c*((2*(k:Int)+3)*(2*k+2)))= -c*((2*((k:Int)+1))*(2*((k:Int)+1)+1)):=by
   rw[show 2*((k:Int)+1)+1=2*(k:Int)+3 by omega,show 2*((k:Int)+1)=2*(k:Int)+2 by omega,Int.mul_comm (2*(k:Int)+2)]
  have d:tt (nC (k+1) c) y (k+1)=(c:Rat)*(y*(y*y)^(k+1)):=by
   simp only[tt,nC];rw[a,hi,Rat.intCast_mul,Rat.intCast_neg,Rat.pow_succ,Rat.div_def];generalize ((((2*((k:Int)+1))*(2*((k:Int)+1)+1):Int)):Rat)=n at *;have e:=Rat.mul_inv_cancel n f;generalize n⁻¹=i at *;generalize (y*y)^k=p
   have: -(-(c:Rat)*n*(y*p)*(y*y))*i=(c:Rat)*(y*(p*(y*y)))*(n*i):=by grind
   rw[this,e]
   grind
  refine⟨d,?_⟩
  have g:ss (nC (k+1) c) y (k+1)=ss (nC (k+1) c) y k+tt (nC (k+1) c) y (k+1):=rfl
  rw[g,d]
  show bO (sl k (-c*((2*(k:Int)+3)*(2*k+2))) (0::c::l)) y=ss (nC k (-c*((2*(k:Int)+3)*(2*k+2)))) y k+_+_
  rw[b];simp only[bO]
  rw[Rat.intCast_zero,show k+1+1=(k+1)+1 from rfl,Rat.pow_succ (y*y) (k+1)]
  generalize (y*y)^(k+1)=p
  grind
theorem DH (c y:Rat):∀k,tt c y k=c*tt 1 y k
 | 0=>by simp only[tt];grind
 | k+1=>by
  simp only[tt];rw[DH c y k,Rat.div_def,Rat.div_def]
  grind
theorem Du (c y:Rat):∀k,ss c y k=c*ss 1 y k
 | 0=>by simp only[ss];grind
 | k+1=>by
  simp only[ss];rw[Du c y k,DH c y (k+1)]
  grind
theorem H8:nC 40 1=DD:=by decide +kernel
theorem IF (y:Rat):ao y=ss 1 y 40:=by
 have h:=(GM y 40 1 []).2
 have e:bO TL y=ss ((DD:Int):Rat) y 40:=by
  show bO (sl 40 1 []) y=_
  rw[h,H8];simp only[bO]
  grind
 unfold ao
 rw[e,Du,Rat.mul_comm];exact Rat.mul_div_cancel (Rat.ne_of_gt mn)
def ti (m:Int):Nat->Int
 | 0=>m
 | k+1=> -((ti m k*m/SC*m/SC) / ((2*((k:Int)+1))*(2*((k:Int)+1)+1)))
def si (m:Int):Nat->Int
 | 0=>m
 | k+1=>si m k+ti m (k+1)
abbrev SR:Rat:=((SC:Int):Rat)
theorem bZ:(0:Rat) < SR:=by
 have h:(0:Int) < SC:=by decide
 exact Rat.intCast_lt_intCast.2 h
theorem Jx (a b:Int)(hb:0 < b):(((a/b:Int)):Rat)*(b:Rat)<=(a:Rat)/\(a:Rat) < (((a/b:Int)):Rat)*(b:Rat)+(b:Rat):=by
 have h1:=Rat.intCast_le_intCast.2 (Int.ediv_mul_le a (Int.ne_of_gt hb));have h2:=Rat.intCast_lt_intCast.2 (Int.lt_ediv_add_one_mul_self a hb);rw[Rat.intCast_mul]at h1 h2;rw[Rat.intCast_add]at h2
 have e:((1:Int):Rat)=1:=rfl
 rw[e]at h2
 constructor <;> grind
theorem sC (a b:Int)(hb:0 < b){z:Rat}(hz:z*(b:Rat)=(a:Rat)):(((a/b:Int)):Rat)<=z/\z < (((a/b:Int)):Rat)+1:=by
 have d:(0:Rat) < (b:Rat):=Rat.intCast_lt_intCast.2 hb
 obtain⟨h1,h2⟩:=Jx a b hb
 constructor
 ·exact Rat.le_of_mul_le_mul_right (by rw[hz];exact h1) d
 ·have c:¬(((a/b:Int)):Rat)+1<=z:=fun c=>by
   have:=Rat.mul_le_mul_of_nonneg_right c (Rat.le_of_lt d)
   rw[hz]at this
   grind
  exact Rat.not_le.1 c
theorem nZ{c e:Rat}(he:0<=e)(h:c*c<=1+e): -(1+e)<=c/\c<=1+e:=by
 have s:=ib e
 constructor
 ·by_cases k: -(1+e)<=c
  ·exact k
  ·have d:=Rat.not_le.1 k
   have this:=Rat.mul_nonneg (a:= -(1+e)-c) (b:= -(1+e)-c) (by grind) (by grind);have g:=Rat.mul_pos (a:= -(1+e)-c) (b:=1+e) (by grind) (by grind)
   grind
 ·by_cases k:c<=1+e
  ·exact k
  ·have d:=Rat.not_le.1 k
   have this:=Rat.mul_nonneg (a:=c-(1+e)) (b:=c-(1+e)) (by grind) (by grind);have g:=Rat.mul_pos (a:=c-(1+e)) (b:=1+e) (by grind) (by grind)
   grind
end Go.Proofs.YteigedaefgmojaaGreatDoor
namespace Go.Proofs.YteigedaefgmojaaGreatDoor
open Go.Proofs.Tryz
open Go.RowKit
set_option linter.unusedVariables false
set_option linter.unusedSimpArgs false
set_option maxRecDepth 100000
theorem az{x y c:Int}(h:ag x y=c):decide (c < 0)=decide (x < y)/\decide (0 < c)=decide (y < x):=by
 rw[<-h]
 rcases aU x y with⟨a,b⟩ | ⟨a,b⟩ | ⟨a,b⟩ <;> rw[b]
 ·exact⟨by rw[dt a];rfl,by rw[df (show ¬y < x by omega)];rfl⟩
 ·exact⟨by rw[df (show ¬x < y by omega)];rfl,by rw[df (show ¬y < x by omega)];rfl⟩
 ·exact⟨by rw[df (show ¬x < y by omega)];rfl,by rw[dt (show y < x by omega)];rfl⟩
end Go.Proofs.YteigedaefgmojaaGreatDoor
namespace Go.Proofs.YteigedaefgmojaaGreatDoor
open Go.Proofs.Tryz
open Go Go.RowKit
set_option linter.unusedVariables false
structure Duo (g h:Nat) (w w':World):Prop where
 os:w'.os=w.os
 tape:w'.tape=w.tape
 output:w'.output=w.output
 size:w.heap.size<=w'.heap.size
 block:∀k,k < w.heap.size->k≠g->k≠h->w'.heap[k]?=w.heap[k]?
section
variable {g h:Nat} {w w' w'':World}
theorem Duo.of (H:Below w.heap.size w w'):Duo g h w w':=⟨H.os,H.tape,H.output,H.size,fun k hk _ _=>H.block k hk⟩
theorem Duo.trans (H:Duo g h w w')(K:Duo g h w' w''):Duo g h w w'':=
 ⟨K.os.trans H.os,K.tape.trans H.tape,K.output.trans H.output,Nat.le_trans H.size K.size,fun i hi a b=>(K.block i (Nat.lt_of_lt_of_le hi H.size) a b).trans (H.block i hi a b)⟩
theorem Duo.mv (H:Duo g h w w')(K:Below w'.heap.size w' w''):Duo g h w w'':=H.trans (.of K)
theorem Duo.stn{k:Nat}{old new:Array Value}{R:TypeId}(H:Duo g h w w')(S:ac w' w'' k old new R)(hk:k=g\/k=h\/w.heap.size<=k):Duo g h w w'':=by
 have hb:=S.2.2.2 0 w' (Nat.zero_le _) (Below.refl 0 w')
 exact⟨hb.os.trans H.os,hb.tape.trans H.tape,hb.output.trans H.output,Nat.le_trans H.size hb.size,fun i hi a b=>(S.2.2.1 i (by omega)).trans (H.block i hi a b)⟩
theorem Duo.below{B:Nat}{a:World}(O:Duo g h w w')(H:Below B a w)(h1:B<=g)(h2:B<=h)(h3:B<=w.heap.size):Below B a w':=
 ⟨O.os.trans H.os,O.tape.trans H.tape,O.output.trans H.output,Nat.le_trans H.size O.size,fun k hk=>(O.block k (by omega) (by omega) (by omega)).trans (H.block k hk)⟩
abbrev Duo.b:= @Duo.below
theorem Bo.duo{k:Nat}{cs:Array Value}{T:TypeId}(X:Bo w k cs T)(O:Duo g h w w')(a:k≠g)(b:k≠h):Bo w' k cs T:=X.keep (O.block k X.lt a b)
theorem Wn.duo{old old2:Array Value}{R R2:TypeId}{s:Bool}{B:Option Addr}{m d:Nat}{z:Int}(p:Wn w s B m d z)(X:Bo w g old R)(Y:Bo w h old2 R2)(hn:old.all no32=true)(hn2:old2.all no32=true)(O:Duo g h w w'):Wn w' s B m d z:=by
 obtain⟨⟨b,q⟩,e⟩:=p
 refine⟨⟨b,q.keep fun hm=>O.block b (q.lt hm) (fun e=>?_) (fun e=>?_)⟩,e⟩
 ·obtain⟨o,_,a⟩:=q.at hm
  have:=a 0 hm
  rw[e]at this;exact X.no hn this
 ·obtain⟨o,_,a⟩:=q.at hm
  have:=a 0 hm
  rw[e]at this;exact Y.no hn2 this
end
theorem F5{p:Int}{k:Nat}{T:Int}(hp:0 < p)(hT:SC.fdiv (p*(2*(k:Int)+1))=T)(hn:T≠0):p<=SC:=by
 have hd:0 < p*(2*(k:Int)+1):=Int.mul_pos hp (by omega)
 rw[Int.fdiv_eq_ediv_of_nonneg _ (by omega)]at hT
 have a:p*(2*(k:Int)+1)<=SC:=by
  rcases Int.lt_or_le SC (p*(2*(k:Int)+1))with c | c
  ·exact absurd ((Int.ediv_eq_zero_of_lt (by decide) c).symm.trans hT).symm hn
  ·exact c
 exact Int.le_trans (by
  have:p*1<=p*(2*(k:Int)+1):=Int.mul_le_mul_of_nonneg_left (by omega) (by omega)
  omega) a
theorem F4{p T:Int}{k:Nat}(hp:0 < p)(hT:SC.fdiv (p*(2*(k:Int)+1))=T):0<=T/\T<=SC:=by
 have hd:0 < p*(2*(k:Int)+1):=Int.mul_pos hp (by omega)
 rw[Int.fdiv_eq_ediv_of_nonneg _ (by omega)]at hT;rw[<-hT];exact⟨Int.ediv_nonneg (by decide) (by omega),Int.ediv_le_self _ (by decide)⟩
theorem CL{p n:Int}(hp:0 < p)(h:p<=SC*1000000)(h1:2<=n)(h2:n<=1000):0 < p*(n*n)/\p*(n*n)<=SC*1000000*1000000:=by
 have a:0 < n*n:=Int.mul_pos (by omega) (by omega)
 have b:n*n<=1000*1000:=Int.mul_le_mul h2 h2 (by omega) (by decide)
 exact⟨Int.mul_pos hp a,Int.mul_le_mul h (by omega) (by omega) (by decide)⟩
theorem IG{T:Int}(h:0<=T/\T<=SC):T.natAbs < 4294967296^8:=by
 have a:T<=6277101735386680763835789423207666416102355444464034512896:=h.2
 have b:=h.1
 omega
theorem FX{p:Int}(h:0 < p/\p<=SC*1000000*1000000):p.natAbs < 4294967296^10:=by
 have a:p<=6277101735386680763835789423207666416102355444464034512896*1000000*1000000:=h.2
 have b:=h.1
 omega
end Go.Proofs.YteigedaefgmojaaGreatDoor
namespace Go.Proofs.YteigedaefgmojaaGreatDoor
open Go.Proofs.Tryz
set_option maxHeartbeats 8000000
open Go.RowKit
set_option linter.unusedVariables false
set_option linter.unusedSimpArgs false
set_option maxRecDepth 100000
theorem i5{w:World}:Calls prog 153 #[] w (W1 w 8 SC):=by
 go_enter func153,ntmps153
 go_upto_region 1 with fail
 generalize e:w.alloc _=w1 at *;obtain⟨c,d⟩:=Bo.en1 e;clear e
 go_wp2_with fail
 refine(Ga (a:=1) 192 ⟨_,[1],kt w1,rfl⟩ (by decide) (by decide)).mono ?_;rintro j n ⟨A2,n2,c2,rfl,p2,l,B⟩;replace B:=bt (af _ (.cells #[.int .u32 1] 103)) B;replace c:=c.b B;replace d:=ak d B;clear B
 go_wp2_with fail
 refine(kH false p2.rd).mono ?_;rintro j k ⟨s3,A3,n3,c3,rfl,f,m,B⟩;replace c:=c.b B;replace d:=ak d B;clear B;clear p2
 replace f:Wn k s3 A3 n3 c3 SC:=by rw[show SC=sg false (1*2^192) by decide];exact f
 have i:=c.cell;have g:=c.frozen;go_wp2;clear i g;have h:=ac.t2 c s3 A3 n3 c3;replace f:=f.s h;exact bq (v:= .agg #[.bool s3,.slice A3 n3 c3]) (by simp[results,results153,go_sem,h.box.cell]) rfl ⟨s3,A3,n3,c3,rfl,f,by omega,(h.below d.out (by omega))⟩
theorem Hd{w:World}{A:Option Addr}{n c K:Nat}{zs:List Int}{y q:Int}(h:Wl w A n c K zs)(hK:1+n*K<=1000)(hy:tj zs=y)(h0:y≠0)(hq:SC.fdiv y=q):Calls prog 238 #[.slice A n c] w (W1 w 2000 q):=by
 go_enter func238,ntmps238
 go_upto_region 1 with fail
 generalize o:w.alloc _=w1 at *;obtain⟨a,d⟩:=Bo.en1 o;replace h:=h.below d.out;clear o
 go_wp2_with fail
 refine(i5).mono ?_;rintro G Q ⟨s2,A2,n2,c2,rfl,p2,M,B⟩;refine aF ?_ a h d B;clear a h d B;intro a h d
 go_wp2_with fail
 refine(ny h (by omega) hy).mono ?_;rintro G R ⟨s3,A3,n3,c3,rfl,H,N,B⟩;refine aF ?_ a p2 d B;clear a p2 d B;intro a p2 d;clear h
 go_wp2_with fail
 refine(Kh p2.wr H.wr (by omega) (by omega) h0 hq rfl).mono ?_;rintro G p ⟨l,i,k,j,s9,A9,n9,c9,rfl,g,J,O,P,B⟩;replace a:=a.b B;replace d:=ak d B;clear B;clear p2 H
 go_upto_region 2 with fail
 have f:(World.alloc p (.cells #[.bool l,.slice i k j] 43)).heap.size=p.heap.size+1:=by simp
 have x:=a.lt;have t:=af p (.cells #[.bool l,.slice i k j] 43);replace a:=a.b t;replace g:=g.b t;replace d:=ie (bt d.out t);have m:=Bo.new p #[.bool l,.slice i k j] 43;generalize e:World.alloc p (.cells #[.bool l,.slice i k j] 43)=L at *;clear e
 have C:=a.lt;have z:=m.lt;generalize e:L.alloc _=S at *;obtain⟨I,F⟩:=Bo.nw e;clear e;refine aR ?_ a m g d F;clear a m g d F;intro a m g d;rw[f]at I;clear f;clear J;have E:=a.cell;have r:=a.frozen;have D:=m.cell;go_wp2;clear E r D
 have u:=ac.t2 a l i k j;replace g:=g.s u;exact bq (v:= .agg #[.bool l,.slice i k j]) (by simp[results,results238,go_sem,u.box.cell]) rfl ⟨l,i,k,j,rfl,g,by omega,(u.below d.out (by omega))⟩
def Ld (w:World)(gp go:Nat)(T P O:Int)(e:Ending)(w':World):Prop:=∃s A n c s6 A6 n6 c6,e= .returned (.agg #[.bool s,.slice A n c])/\Wn w' s A n c T/\n<=8/\Bo w' gp #[.bool s6,.slice A6 n6 c6] 43/\Wn w' s6 A6 n6 c6 P/\n6<=10/\Bo w' go #[.int .i64 O] 3/\Duo gp go w w'
theorem z7{w:World}{gp go gb k:Nat}{s6 s7:Bool}{A6 A7:Option Addr}{n6 c6 n7 c7:Nat}{p n T:Int}(XP:Bo w gp #[.bool s6,.slice A6 n6 c6] 43)(XO:Bo w go #[.int .i64 (2*(k:Int)+1)] 3)(XB:Bo w gb #[.bool s7,.slice A7 n7 c7] 43)(p6:Wn w s6 A6 n6 c6 p)(p7:Wn w s7 A7 n7 c7 n)(k6:n6<=10)(k7:n7<=2)(hpo:gp≠go)(hpb:gp≠gb)(hob:go≠gb)
  (hk:k<=1000) (hp:0 < p) (hp2:p<=SC*1000000) (h1:2<=n) (h2:n<=1000) (hT:SC.fdiv (p*(2*(k:Int)+1))=T):
  Calls prog 237 #[.pointer (some ⟨gp,0,none⟩),.pointer (some ⟨go,0,none⟩),.pointer (some ⟨gb,0,none⟩)] w (Ld w gp go T (p*(n*n)) (2*(k:Int)+3)):=by
 have HT:=ie hT
 have HY:Hid (tj [p,2*(k:Int)+1]=p*(2*(k:Int)+1)):=ie (by show 1*p*(2*(k:Int)+1)=_;rw[Int.one_mul])
 have H0:Hid (p*(2*(k:Int)+1)≠0):=ie (by have:=Int.mul_pos hp (show (0:Int) < 2*(k:Int)+1 by omega);omega)
 have HM:Hid (tj [p,n,n]=p*(n*n)):=ie (by show 1*p*n*n=_;rw[Int.one_mul,Int.mul_assoc])
 have O:=ie (F4 hp hT);have N:=ie (CL hp hp2 h1 h2)
 have P:Hid (IntKind.i64.wrap (2*(k:Int)+1+2)=2*(k:Int)+3):=ie (by rw[show 2*(k:Int)+1+2=2*(k:Int)+3 by omega];exact IntWalk.i64_in _ (by omega))
 have Q:Hid (wrap64 (2*(k:Int)+1+2)=2*(k:Int)+3):=ie (by rw[show 2*(k:Int)+1+2=2*(k:Int)+3 by omega];exact IntWalk.wrap64_in _ (by omega))
 have HK:Hid (2*(k:Int)+1<=3000):=ie (by omega)
 have G1:=XP.lt;have G2:=XO.lt;have G3:=XB.lt;clear hT hp hp2 h1 h2
 go_enter func237,ntmps237
 go_upto_region 1 with fail
 have h:=Bo.newAt w (g:=w.heap.size) rfl #[.bool false,.slice none 0 0] 43
 have j:Hid (Duo gp go w (World.alloc w (.cells #[.bool false,.slice none 0 0] 43))):=ie (.of (af w (.cells #[.bool false,.slice none 0 0] 43)))
 replace XP:=XP.below (af w (.cells #[.bool false,.slice none 0 0] 43));replace XO:=XO.below (af w (.cells #[.bool false,.slice none 0 0] 43));replace XB:=XB.below (af w (.cells #[.bool false,.slice none 0 0] 43));replace p6:=p6.below (af w (.cells #[.bool false,.slice none 0 0] 43));replace p7:=p7.below (af w (.cells #[.bool false,.slice none 0 0] 43));generalize V:World.alloc w (.cells #[.bool false,.slice none 0 0] 43)=w1 at *
 clear V;have fH:=XP.lt;have bN:=XO.lt;have bH:=XB.lt;have fP:=h.lt;refine bF [0,1,2,3,4,5] [6,7,8,9,10,5,0] [[],[],[1],[0,2],[3],[],[]] 7 1 [Jo.Fact.eq (.agg #[.bool s6,.slice A6 n6 c6]),Jo.Fact.eq (.int .i64 (2*(k:Int)+1)),Jo.Fact.wn (2*(k:Int)+1) (2),Jo.Fact.wl 10 2 [p,2*(k:Int)+1],Jo.Fact.wn (T) (8),Jo.Fact.bo w1.heap.size #[.bool false,.slice none 0 0] 43,Jo.Fact.any] ?_ ?_
 ·refine jm ?_ ?_
  ·rintro F e K i;have t:=(XP.b e).cell;go_simp;exact i.out _ _ rfl (br _ _)
  refine jm ?_ ?_
  ·rintro F e K i;have x:=(XO.b e).a 0 (.int .i64 (2*(k:Int)+1)) rfl;go_simp;exact i.out _ _ rfl (br _ _)
  refine jm ?_ ?_
  ·rintro F e _ rfl K i;go_simp;exact Jo.w1 (iL _ _ (by omega) (by omega)) i.out
  refine jm ?_ ?_
  ·rintro F e _ rfl _ ⟨bA,L,Z,R,rfl,E,Y⟩ K i;go_simp;exact i.out _ _ ⟨_,_,rfl,Wl.lit2 rfl (p6.b e).wr E.wr (by omega) (by omega)⟩ (af _ _)
  refine jm ?_ ?_
  ·rintro F e _ ⟨gB,gO,rfl,U⟩ K i;go_simp;refine(Hd U (by decide) HY.out H0.out HT.out).mono ?_;rintro ee wk ⟨r,m,q,o,rfl,d,A,B⟩;exact i.out _ _ ⟨r,m,q,o,rfl,d,(d.fits (IG O.out))⟩ B
  refine jm ?_ ?_
  ·rintro F e K i;go_simp;exact i.out _ _ ⟨_,rfl,e.size,Bo.new _ _ _⟩ (af _ _)
  exact jo
 rintro w2 e _ rfl _ rfl _ ⟨bA,L,Z,R,rfl,E,Y⟩ _ ⟨_,_,rfl,_⟩ _ ⟨r,m,q,o,rfl,d,A⟩ _ ⟨g8,rfl,gP,l⟩ -;simp only[Jo.z];replace XP:=XP.b e;replace XO:=XO.b e;replace XB:=XB.b e;replace h:=h.b e;replace p6:=p6.b e;replace p7:=p7.b e;replace j:=ie (j.out.mv e);have y:=l.cell;have G:=l.frozen
 refine jn 6 fun K i=>?_
 go_simp;refine i.out _ _ ?_;clear i K y G;generalize u:(w2.setCell _ _).setCell _ _=w3 at *;have c:=ac.of2 l u;replace XP:=XP.s c;replace XO:=XO.s c;replace XB:=XB.s c;replace h:=h.s c;replace p6:=p6.s c;replace p7:=p7.s c;replace d:=d.s c
 replace j:=ie (j.out.stn c (by omega));replace l:=c.box;clear c u;refine jd ?_;have t:=XP.cell;have bC:=XB.cell
 go_wp2_with fail
 refine(ny (Wl.lit3 (K:=10) rfl p6.wr p7.wr p7.wr (by omega) (by omega) (by omega)) (by decide) HM.out).mono ?_;rintro ee w4 ⟨bB,M,D,S,rfl,f,C,B⟩;replace B:=bt (af _ _) B;clear t bC;replace XP:=XP.b B;replace XO:=XO.b B;replace h:=h.b B;replace l:=l.b B;replace d:=d.b B;replace j:=ie (j.out.mv B);clear B p6 p7
 replace C:D<=10:=f.fits (FX N.out)
 have t:=XP.cell;have I:=XP.frozen
 go_upto_region 3 with fail
 clear t I;generalize u:(w4.setCell _ _).setCell _ _=w5 at *;have c:=ac.of2 XP u;replace XO:=XO.s c;replace h:=h.s c;replace l:=l.s c;replace d:=d.s c;replace f:=f.s c;replace j:=ie (j.out.stn c (by omega));replace XP:=c.box;clear c u;have W:=P.out
 have X:=Q.out;have x:=XO.a 0 (.int .i64 (2*(k:Int)+1)) rfl;have H:=XO.frozen 0
 go_upto_region 4 with fail
 clear W X;clear x H
 have c:ac w5 (World.setCell w5 ⟨go,0,none⟩ (.int .i64 (2*(k:Int)+3))) _ _ #[.int .i64 (2*(k:Int)+3)] _:=ac.at4 XO 0 (.int .i64 (2*(k:Int)+3))
 replace XP:=XP.s c;replace h:=h.s c;replace l:=l.s c;replace d:=d.s c;replace f:=f.s c;replace j:=ie (j.out.stn c (by omega));replace XO:=c.box;clear c;generalize World.setCell w5 ⟨go,0,none⟩ (.int .i64 (2*(k:Int)+3))=w6 at *;have bD:=h.cell;have J:=h.frozen
 have y:=l.cell;go_wp2;clear bD J y;generalize u:(w6.setCell _ _).setCell _ _=w7 at *;have c:=ac.of2 h u;replace XP:=XP.s c;replace XO:=XO.s c;replace d:=d.s c;replace f:=f.s c;replace j:=ie (j.out.stn c (by omega));replace h:=c.box;clear c u;exact bq (v:= .agg #[.bool r,.slice m q o]) (by simp[results,results237,go_sem,h.cell]) rfl ⟨r,m,q,o,bB,M,D,S,rfl,d,A,XP,f,C,XO,j.out⟩
theorem He{w:World}{n:Int}(h1:2<=n)(h2:n<=1000):Calls prog 208 #[.int .i64 n] w (fun e w'=>∃gp go gb s6 A6 n6 c6 s7 A7 n7 c7,e= .returned (.func (.func 237) #[] #[.pointer (some ⟨gp,0,none⟩),.pointer (some ⟨go,0,none⟩),.pointer (some ⟨gb,0,none⟩)])/\Bo w' gp #[.bool s6,.slice A6 n6 c6] 43/\Bo w' go #[.int .i64 1] 3/\Bo w' gb #[.bool s7,.slice A7 n7 c7] 43/\Wn w' s6 A6 n6 c6 n/\Wn w' s7 A7 n7 c7 n/\n6<=2/\n7<=2/\gp≠go/\gp≠gb/\go≠gb/\w.heap.size<=gp/\w.heap.size<=go/\Below w.heap.size w w'):=by
 have t:∀(fn:Fn) (first cap:Array Value) (w:World),(Instr.makeFunc fn first cap).run prog w= .ok (.func fn first cap) w:=fun _ _ _ _=>rfl
 have c:=ie (Below.refl w.heap.size w)
 go_enter func208,ntmps208
 go_wp2_with fail
 refine(iL n _ (by omega) (by omega)).mono ?_;rintro s C ⟨s7,A7,n7,c7,rfl,d,y,B⟩;replace c:=ak c B;clear B
 go_wp2_with fail
 refine(iL n _ (by omega) (by omega)).mono ?_;rintro s f ⟨s6,A6,n6,c6,rfl,h,x,B⟩;replace d:=d.b B;replace c:=ak c B;clear B;have u:=c.out.size
 go_upto_region 2 with fail
 have l:(World.alloc f (.cells #[.bool s7,.slice A7 n7 c7] 43)).heap.size=f.heap.size+1:=by simp
 have k:(World.alloc (World.alloc f (.cells #[.bool s7,.slice A7 n7 c7] 43)) (.cells #[.bool s6,.slice A6 n6 c6] 43)).heap.size=f.heap.size+1+1:=by simp
 have m:=af f (.cells #[.bool s7,.slice A7 n7 c7] 43);replace h:=h.b m;replace d:=d.b m;replace c:=ie (bt c.out m);have g:=Bo.new f #[.bool s7,.slice A7 n7 c7] 43;generalize a:World.alloc f (.cells #[.bool s7,.slice A7 n7 c7] 43)=z at *;clear a;have q:=g.lt
 generalize a:z.alloc _=A at *;obtain⟨i,j⟩:=Bo.nw a;clear a;refine aR ?_ g h d c j;clear g h d c j;intro g h d c;have o:=g.lt;have p:=i.lt;generalize a:A.alloc _=D at *;obtain⟨r,j⟩:=Bo.nw a;clear a;refine dW ?_ g i h d c j;clear g i h d c j;intro g i h d c;rw[l]at i;rw[k]at r;go_wp2;exact bq (v:= .func (.func 237) #[] #[.pointer (some ⟨f.heap.size+1,0,none⟩),.pointer (some ⟨f.heap.size+1+1,0,none⟩),.pointer (some ⟨f.heap.size,0,none⟩)]) (by simp[results,results208,go_sem]) rfl ⟨_,_,_,_,_,_,_,_,_,_,_,rfl,i,r,g,h,d,x,y,by omega,by omega,by omega,by omega,by omega,c.out⟩
theorem EM{w:World}{n:Int}(h:n < 2):Calls prog 138 #[.int .i64 n] w (W2 w 1000000 0 0):=by
 have I:decide (n < 2)=true:=dt h
 go_enter func138,ntmps138
 go_upto_region 1 with fail
 generalize j:(w.alloc _).alloc _=w1 at *;obtain⟨b,a,d⟩:=Bo.en2 j;clear j
 go_upto_region 2 with fail
 have o:=b.lt;have p:=a.lt;generalize k:w1.alloc _=L at *;obtain⟨i,u⟩:=Bo.nw k;clear k;refine aF ?_ b a d u;clear b a d u;intro b a d;have A:=b.lt;have B:=a.lt;have y:=i.lt
 go_upto_region 3 with fail
 refine Jo.rl (w.heap.size) #[.bool false,.slice none 0 0] 43 [0,1,2] [some 16,some 17,none,none] [[],[],[0],[]] 4 1 [Jo.LFact.eq (.agg #[.bool false,.slice none 0 0]),Jo.LFact.eq (.agg #[.bool false,.slice none 0 0]),Jo.LFact.done,Jo.LFact.any] (by kernel_rfl) (by kernel_rfl) (by decide) rfl ?_ ?_
 ·refine Jo.lm rfl ?_ ?_
  ·rintro q f K c;simp only[Jo.z]at c|-;replace i:=i.off (by omega) f;have r:=i.cell;go_simp;exact c.out _ _ rfl (Jo.Off.refl _ _ _ _)
  refine Jo.lm rfl ?_ ?_
  ·rintro q f K c;simp only[Jo.z]at c|-;replace i:=i.off (by omega) f;have r:=i.cell;go_simp;exact c.out _ _ rfl (Jo.Off.refl _ _ _ _)
  refine Jo.lm rfl ?_ ?_
  ·rintro q f _ rfl K c;simp only[Jo.z]at c|-
   obtain⟨C,D,m⟩:∃C D,Bo q (w.heap.size) #[C,D] 43:=by
    rcases f.own with e | e
    ·exact⟨_,_,b.keep e⟩
    ·exact⟨_,_,e⟩
   have H:=m.cell;have F:=m.frozen;go_simp;have g:=ac.t2 m false none 0 0;exact c.out undef _ g.box (Jo.Off.of_stn g)
  exact jo
 rintro E f _ rfl _ rfl J G -;simp only[Jo.z];replace d:=ie (f.below d.out (by omega) b.lt);replace a:=a.off (by omega) f
 replace b:Bo E (w.heap.size) #[.bool false,.slice none 0 0] 43:=G
 have t:=a.cell;have l:=a.frozen
 refine jn 3 fun K c=>?_
 go_simp;refine c.out _ _ ?_;clear c K t l;generalize x:(E.setCell _ _).setCell _ _=M at *;have g:=ac.of2 a x;replace b:=b.s g;replace d:=bi d g (by omega);replace a:=g.box;clear g x;refine jd ?_;go_wp2;exact bq (v:= .tuple #[.agg #[.bool false,.slice none 0 0],.agg #[.bool false,.slice none 0 0]]) (by simp[results,results138,go_sem,b.cell,a.cell]) rfl ⟨_,_,_,_,_,_,_,_,rfl,⟨Nm.zero,rfl⟩,⟨Nm.zero,rfl⟩,Nat.zero_le _,Nat.zero_le _,d.out⟩
theorem EK{w:World}{n:Int}(h:1000 < n):Calls prog 138 #[.int .i64 n] w (W2 w 1000000 0 0):=by
 have I:decide (n < 2)=false:=df (by omega)
 have J:decide (1000 < n)=true:=dt h
 go_enter func138,ntmps138
 go_upto_region 1 with fail
 generalize j:(w.alloc _).alloc _=w1 at *;obtain⟨b,a,d⟩:=Bo.en2 j;clear j
 go_upto_region 2 with fail
 have o:=b.lt;have p:=a.lt;generalize k:w1.alloc _=M at *;obtain⟨i,u⟩:=Bo.nw k;clear k;refine aF ?_ b a d u;clear b a d u;intro b a d;have A:=b.lt;have B:=a.lt;have y:=i.lt
 go_upto_region 3 with fail
 refine Jo.rl (w.heap.size) #[.bool false,.slice none 0 0] 43 [0,1,2] [some 16,some 17,none,none] [[],[],[0],[]] 4 1 [Jo.LFact.eq (.agg #[.bool false,.slice none 0 0]),Jo.LFact.eq (.agg #[.bool false,.slice none 0 0]),Jo.LFact.done,Jo.LFact.any] (by kernel_rfl) (by kernel_rfl) (by decide) rfl ?_ ?_
 ·refine Jo.lm rfl ?_ ?_
  ·rintro q f K c;simp only[Jo.z]at c|-;replace i:=i.off (by omega) f;have r:=i.cell;go_simp;exact c.out _ _ rfl (Jo.Off.refl _ _ _ _)
  refine Jo.lm rfl ?_ ?_
  ·rintro q f K c;simp only[Jo.z]at c|-;replace i:=i.off (by omega) f;have r:=i.cell;go_simp;exact c.out _ _ rfl (Jo.Off.refl _ _ _ _)
  refine Jo.lm rfl ?_ ?_
  ·rintro q f _ rfl K c;simp only[Jo.z]at c|-
   obtain⟨C,D,m⟩:∃C D,Bo q (w.heap.size) #[C,D] 43:=by
    rcases f.own with e | e
    ·exact⟨_,_,b.keep e⟩
    ·exact⟨_,_,e⟩
   have H:=m.cell;have F:=m.frozen;go_simp;have g:=ac.t2 m false none 0 0;exact c.out undef _ g.box (Jo.Off.of_stn g)
  exact jo
 rintro E f _ rfl _ rfl L G -;simp only[Jo.z];replace d:=ie (f.below d.out (by omega) b.lt);replace a:=a.off (by omega) f
 replace b:Bo E (w.heap.size) #[.bool false,.slice none 0 0] 43:=G
 have t:=a.cell;have l:=a.frozen
 refine jn 3 fun K c=>?_
 go_simp;refine c.out _ _ ?_;clear c K t l;generalize x:(E.setCell _ _).setCell _ _=N at *;have g:=ac.of2 a x;replace b:=b.s g;replace d:=bi d g (by omega);replace a:=g.box;clear g x;refine jd ?_;go_wp2;exact bq (v:= .tuple #[.agg #[.bool false,.slice none 0 0],.agg #[.bool false,.slice none 0 0]]) (by simp[results,results138,go_sem,b.cell,a.cell]) rfl ⟨_,_,_,_,_,_,_,_,rfl,⟨Nm.zero,rfl⟩,⟨Nm.zero,rfl⟩,Nat.zero_le _,Nat.zero_le _,d.out⟩
def Jb (w:World)(n:Int)(R:Int × Nat)(g5 g6 k:Nat)(wr:World):Prop:=∃(s p:Int) (s5:Bool) (A5:Option Addr) (n5 c5:Nat) (s6:Bool) (A6:Option Addr) (n6 c6:Nat),Bo wr w.heap.size #[.bool false,.slice none 0 0] 43/\Bo wr (w.heap.size+1) #[.bool false,.slice none 0 0] 43/\Bo wr g5 #[.bool s5,.slice A5 n5 c5] 43/\Bo wr g6 #[.bool s6,.slice A6 n6 c6] 43/\Wn wr s5 A5 n5 c5 s/\Wn wr s6 A6 n6 c6 p/\n5<=1000*k/\n6<=2+4*k/\k<=100/\(2:Int)^(2*k+1)<=p/\io n (200-k) k s p=R/\Below w.heap.size w wr
theorem qO{n p s:Int}{k:Nat}{R:Int × Nat}(hn:2<=n)(hk:k<=100)(hp:(2:Int)^(2*k+1)<=p)(h:io n (200-k) k s p=R):∃T:Int,SC.fdiv (p*(2*(k:Int)+1))=T/\p*(2*(k:Int)+1)≠0/\0<=T/\(T=0->(s,k)=R)/\
  (T≠0->k+1<=100/\(2:Int)^(2*(k+1)+1)<=p*(n*n)/\io n (200-(k+1)) (k+1) (if k%2=1 then s+ -T else s+T) (p*(n*n))=R):=by
 have p2:(0:Int) < 2^(2*k+1):=Int.pow_pos (by decide)
 have i:0 < p:=by omega
 have hd:0 < p*(2*(k:Int)+1):=Int.mul_pos i (by omega)
 have hf:SC.fdiv (p*(2*(k:Int)+1))=SC/ (p*(2*(k:Int)+1)):=Int.fdiv_eq_ediv_of_nonneg _ (by omega)
 refine⟨_,hf,by omega,Int.ediv_nonneg (by decide) (by omega),fun e=>?_,fun e=>?_⟩
 ·rw[show 200-k=(199-k)+1 by omega]at h
  unfold io at h
  rw[if_pos e]at h;exact h
 ·rw[show 200-k=(200-(k+1))+1 by omega]at h
  unfold io at h
  rw[if_neg e]at h
  have g:p*(2*(k:Int)+1)<=SC:=by
   rcases Int.lt_or_le SC (p*(2*(k:Int)+1))with c | c
   ·exact absurd (Int.ediv_eq_zero_of_lt (by decide) c) e
   ·exact c
  have f:p<=SC:=Int.le_trans (by
   have:p*1<=p*(2*(k:Int)+1):=Int.mul_le_mul_of_nonneg_left (by omega) (by omega)
   omega) g
  refine⟨?_,?_,h⟩
  ·rcases Nat.lt_or_ge k 100 with c | c
   ·omega
   ·exfalso
    have d:k=100:=by omega
    subst d
    have:(2:Int)^(2*100+1)<=SC:=Int.le_trans hp f
    revert this
    decide
  ·rw[show 2*(k+1)+1=(2*k+1)+2 by omega,Int.pow_add]
   have h4:(2:Int)^2<=n*n:=by
    have a:(2:Int)*2<=n*2:=Int.mul_le_mul_of_nonneg_right hn (by decide)
    have b:n*2<=n*n:=Int.mul_le_mul_of_nonneg_left hn (by omega)
    show (4:Int)<=n*n
    omega
   exact Int.mul_le_mul hp h4 (by decide) (by omega)
theorem EL{w:World}{n:Int}(h1:2<=n)(h2:n<=1000){a b:Int}(hr:gU n=(a,b)):Calls prog 138 #[.int .i64 n] w (W2 w 1000000 a b):=by
 have t1:decide (n < 2)=false:=df (by omega)
 have t2:decide (1000 < n)=false:=df (by omega)
 obtain⟨R,hR⟩:∃R,io n 200 0 0 n=R:=⟨_,rfl⟩
 have J:R.1+(-(R.2:Int)-1)=a/\R.1+((R.2:Int)+1)=b:=by
  unfold gU at hr
  rw[if_neg (by omega),hR]at hr
  injection hr with e1 e2
  exact⟨e1,e2⟩
 have HR:=ie hR;have HA:=ie J.1;have Y:=ie J.2
 have hM:Hid (IntKind.i64.wrap (n*n)=n*n):=ie (IntWalk.i64_in _ (by
  have a:(0:Int)<=n*n:=Int.mul_nonneg (by omega) (by omega)
  have b:n*n<=1000*1000:=Int.mul_le_mul h2 h2 (by omega) (by decide)
  omega))
 have Q:Hid (0<=n*n/\n*n<=1000000):=ie (by
  have a:(0:Int)<=n*n:=Int.mul_nonneg (by omega) (by omega)
  have b:n*n<=1000*1000:=Int.mul_le_mul h2 h2 (by omega) (by decide)
  exact⟨a,by omega⟩)
 clear hr hR J
 go_enter func138,ntmps138
 go_upto_region 1 with fail
 generalize lA:(w.alloc _).alloc _=w1 at *;obtain⟨d,e,g⟩:=Bo.en2 lA;clear lA
 go_upto_region 2 with fail
 have fH:=d.lt;have fP:=e.lt;generalize A:w1.alloc _=w2 at *;obtain⟨X4,V⟩:=Bo.nw A;clear A;refine aF ?_ d e g V;clear d e g V;intro d e g;have W:=d.lt;have X:=e.lt;have BX:=X4.lt;have ME:=X4.cell
 go_upto_region 5 with fail
 clear ME;have gB:=d.lt;have gO:=e.lt;generalize A:w2.alloc _=w3 at *;obtain⟨f,V⟩:=Bo.nw A;clear A;refine aF ?_ d e g V;clear d e g V;intro d e g
 go_wp2_with fail
 refine(gy n _ (by omega) (by omega)).mono ?_;rintro ee w4 ⟨s6,A6,n6,c6,rfl,j,k6,B⟩;refine aR ?_ d e f g B;clear d e f g B;intro d e f g;clear t1 t2
 go_upto_region 6 with fail
 have gS:=d.lt;have hA:=e.lt;have gP:=f.lt;generalize A:w4.alloc _=w5 at *;obtain⟨h,V⟩:=Bo.nw A;clear A;refine dW ?_ d e f j g V;clear d e f j g V;intro d e f j g
 have G1:w.heap.size < w2.heap.size/\w.heap.size+1 < w2.heap.size/\w2.heap.size < w4.heap.size:=⟨by omega,by omega,by omega⟩
 clear fH fP gB gO gS hA gP W X BX;generalize w2.heap.size=g5 at *;generalize w4.heap.size=g6 at *
 have iV:Jb w n R g5 g6 0 w5:=⟨0,n,_,_,_,_,_,_,_,_,d,e,f,h,⟨Nm.zero,rfl⟩,j,Nat.zero_le _,by omega,by decide,by simpa using h1,HR.out,g.out⟩
 have hL:=ie iV;clear iV d e X4 f h j g HR;go_wp2
 go_loopw [7] (fun i wr=>∃k:Nat,i= .int .i64 k/\Jb w n R g5 g6 k wr) (fun i _=>200-(intOf i).toNat)
 case atStart=>exact ⟨0,rfl,hL.out⟩
 case round=>
  obtain⟨k,rfl,s,p,s5,A5,n5,c5,s6,A6,n6,c6,d,e,f,h,u,j,k5,k6,hk,hp,hG,hB⟩:=hrel;have g:=ie hB;obtain⟨T,hT,lB,LF,hz,xX⟩:=qO h1 hk hp hG;have HT:=ie hT;have HZ:=ie hz;have Z:=ie xX
  have MU:decide ((k:Int) < 200)=true:=dt (by omega)
  have hP:=iw (2*(k:Int));have hQ:=iw (2*(k:Int)+1);have hU:=jw (2*(k:Int)+1);clear hB hL hp hG hT hz xX
  go_upto_region 8 with fail
  have W:=d.lt;have X:=e.lt;have MH:=f.lt;have MI:=h.lt;refine bF [0,1,2,3,4,5,6,7] [24,25,26,27,28,29,30,9,0] [[],[],[],[2],[3],[1,4],[0,5],[],[]] 9 1 [Jo.Fact.wn (SC) (8),Jo.Fact.eq (.agg #[.bool s6,.slice A6 n6 c6]),Jo.qi k,Jo.Fact.eq (.int .i64 (2*(k:Int))),Jo.Fact.eq (.int .i64 (2*(k:Int)+1)),Jo.Fact.wn (p*(2*(k:Int)+1)) (n6+2),Jo.Fact.wn (T) (n6+20),Jo.Fact.bo wr.heap.size #[.bool false,.slice none 0 0] 43,Jo.Fact.any] ?_ ?_
  ·refine jm ?_ ?_
   ·rintro G q K m;go_simp;exact Jo.w1 (i9) m.out
   iterate 2 (refine jm ?_ ?_;rotate_left)
   refine jm ?_ ?_
   ·rintro G q _ rfl K m;have hw:=hP.out;go_simp
    exact m.out _ _ (by first | rfl | (show Value.int _ _=Value.int _ _;simp_all)) (br _ _)
   refine jm ?_ ?_
   ·rintro G q _ rfl K m;have hw:=hQ.out;have MO:=hU.out;go_simp
    exact m.out _ _ (by first | rfl | (show Value.int _ _=Value.int _ _;simp_all)) (br _ _)
   refine jm ?_ ?_
   ·rintro G q _ rfl _ rfl K m;go_simp;exact Jo.w1 (ip (j.b q).wr (by omega) (by omega) (by omega) rfl) m.out
   refine jm ?_ ?_
   ·rintro G q _ ⟨LW,HH,LS,HY,rfl,hC,LG⟩ _ ⟨LX,HI,LT,LA,rfl,hD,LH⟩ K m;go_simp;exact Jo.w1 (vM hC.wr hD.wr (by omega) (by omega) lB HT.out) m.out
   refine jm ?_ ?_
   ·rintro G q K m;go_simp;exact m.out _ _ ⟨_,rfl,q.size,Bo.new _ _ _⟩ (af _ _)
   exact jo
   all_goals (rintro G q;(repeat rintro _ rfl);intro K m;have D:=(h.b q).cell;go_simp;exact m.out _ _ rfl (br _ _))
  rintro w6 q _ ⟨LW,HH,LS,HY,rfl,hC,LG⟩ _ rfl _ rfl _ rfl _ rfl _ ⟨LX,HI,LT,LA,rfl,hD,LH⟩ _ ⟨MS,MJ,MQ,ML,rfl,o,LI⟩ _ ⟨g8,rfl,MN,l⟩ -;simp only[Jo.z];replace d:=d.b q;replace e:=e.b q;replace f:=f.b q;replace h:=h.b q;replace u:=u.b q;replace j:=j.b q;replace g:=ak g q;have t:=l.cell
  have P:=l.frozen
  refine jn 8 fun K m=>?_
  go_simp;refine m.out _ _ ?_;clear m K t P;generalize x:(w6.setCell _ _).setCell _ _=w7 at *;have c:=ac.of2 l x;replace d:=d.s c;replace e:=e.s c;replace f:=f.s c;replace h:=h.s c;replace u:=u.s c;replace j:=j.s c;replace o:=o.s c
  replace g:=bi g c (by omega);replace l:=c.box;clear c x;refine jd ?_;clear HT hP hQ hU hC hD lB
  by_cases hc:T=0
  ·have HS:Hid (ag T 0=0):=ie (by rw[hc];decide)
   have bD:=HZ.out hc
   have e1:R.1=s:=by rw[<-bD]
   have e2:R.2=k:=by rw[<-bD]
   have HN:Hid (s+(-(k:Int)-1)=a):=ie (by rw[<-e1,<-e2];exact HA.out)
   have HO:Hid (s+((k:Int)+1)=b):=ie (by rw[<-e1,<-e2];exact Y.out)
   clear HZ Z HA Y bD e1 e2;have t:=l.cell
   go_wp2_with fail
   refine(jK o.wr HS.out).mono ?_;rintro ee w8 ⟨rfl,B⟩;clear t;refine GE ?_ d e f h l u j o g B;clear d e f h l u j o g B;intro d e f h l u j o g;clear o j
   go_upto_region 15 with fail
   have HP:=iw (-(k:Int));have HQ:=iw (-(k:Int)-1);have HU:=iw ((k:Int)+1);have HV:=jw ((k:Int)+1);have HW:=jw (-(k:Int));have HX:=jw (-(k:Int)-1);refine bF [0,1,2,3,4,5,6,7,8,9,10] [49,50,51,52,53,54,55,56,57,58,59,0,0] [[],[],[1],[2],[3],[0,4],[],[],[7],[8],[6,9],[],[]] 13 2 [Jo.Fact.eq (.agg #[.bool s5,.slice A5 n5 c5]),Jo.qi k,Jo.Fact.eq (.int .i64 (-(k:Int))),Jo.Fact.eq (.int .i64 (-(k:Int)-1)),Jo.Fact.wn (-(k:Int)-1) (2),Jo.Fact.wn (a) (1000000),Jo.Fact.eq (.agg #[.bool s5,.slice A5 n5 c5]),Jo.qi k,Jo.Fact.eq (.int .i64 ((k:Int)+1)),Jo.Fact.wn ((k:Int)+1) (2),Jo.Fact.wn (b) (1000000),Jo.Fact.any,Jo.Fact.any] ?_ ?_
   ·iterate 2 (refine jm ?_ ?_;rotate_left)
    refine jm ?_ ?_
    ·rintro G q _ rfl K m;have hw:=HP.out;have U:=HW.out;go_simp
     exact m.out _ _ (by first | rfl | (show Value.int _ _=Value.int _ _;simp_all)) (br _ _)
    refine jm ?_ ?_
    ·rintro G q _ rfl K m;have hw:=HQ.out;have MP:=HX.out;go_simp
     exact m.out _ _ (by first | rfl | (show Value.int _ _=Value.int _ _;simp_all)) (br _ _)
    refine jm ?_ ?_
    ·rintro G q _ rfl K m;go_simp;exact Jo.w1 (gy _ _ (by omega) (by omega)) m.out
    refine jm ?_ ?_
    ·rintro G q _ rfl _ ⟨MA,HL,LU,LD,rfl,ET,LN⟩ K m;go_simp;exact Jo.w1 (gk (u.b q).wr ET.wr (by omega) (by omega) HN.out) m.out
    iterate 2 (refine jm ?_ ?_;rotate_left)
    refine jm ?_ ?_
    ·rintro G q _ rfl K m;have hw:=HU.out;have S:=HV.out;go_simp
     exact m.out _ _ (by first | rfl | (show Value.int _ _=Value.int _ _;simp_all)) (br _ _)
    refine jm ?_ ?_
    ·rintro G q _ rfl K m;go_simp;exact Jo.w1 (gy _ _ (by omega) (by omega)) m.out
    refine jm ?_ ?_
    ·rintro G q _ rfl _ ⟨MB,HM,LV,LE,rfl,HC,LP⟩ K m;go_simp;exact Jo.w1 (gk (u.b q).wr HC.wr (by omega) (by omega) HO.out) m.out
    exact jo
    all_goals (rintro G q;(repeat rintro _ rfl);intro K m;have C:=(f.b q).cell;go_simp;exact m.out _ _ rfl (br _ _))
   rintro w9 q _ rfl _ rfl _ rfl _ rfl _ ⟨MA,HL,LU,LD,rfl,ET,LN⟩ _ ⟨HD,hH,CD,hX,rfl,L,LO⟩ _ rfl _ rfl _ rfl _ ⟨MB,HM,LV,LE,rfl,HC,LP⟩ _ ⟨HE,hI,DS,hZ,rfl,M,LR⟩ -;simp only[Jo.z];replace d:=d.b q;replace e:=e.b q;replace f:=f.b q;replace h:=h.b q;replace l:=l.b q;replace u:=u.b q;replace g:=ak g q
   have MF:=d.cell;have HF:=d.frozen
   refine jn 11 fun K m=>?_
   go_simp;refine m.out _ _ ?_;clear m K MF HF;generalize x:(w9.setCell _ _).setCell _ _=wA at *;have c:=ac.of2 d x;replace e:=e.s c;replace f:=f.s c;replace h:=h.s c;replace l:=l.s c;replace L:=L.s c;replace M:=M.s c;replace g:=bi g c (by omega)
   replace d:=c.box;clear c x;have MG:=e.cell;have HG:=e.frozen
   refine jn 12 fun K m=>?_
   go_simp;refine m.out _ _ ?_;clear m K MG HG;generalize x:(wA.setCell _ _).setCell _ _=wB at *;have c:=ac.of2 e x;replace d:=d.s c;replace f:=f.s c;replace h:=h.s c;replace l:=l.s c;replace L:=L.s c;replace M:=M.s c;replace g:=bi g c (by omega)
   replace e:=c.box;clear c x;refine jd ?_;go_wp2;exact bq (v:= .tuple #[.agg #[.bool HD,.slice hH CD hX],.agg #[.bool HE,.slice hI DS hZ]]) (by simp[results,results138,go_sem,d.cell,e.cell]) rfl ⟨HD,hH,CD,hX,HE,hI,DS,hZ,rfl,L,M,LO,LR,g.out⟩
  ·have HS:Hid (ag T 0=1):=ie (aC (by omega))
   obtain⟨qT,zX,iU⟩:=Z.out hc;have hN:=ie zX;have H:=ie iU;have hV:=iw ((k:Int)+1);have hW:=jw ((k:Int)+1);clear HZ Z HA Y zX iU hc LF;have t:=l.cell
   go_wp2_with fail
   refine(jK o.wr HS.out).mono ?_;rintro ee w8 ⟨rfl,B⟩;clear t;refine GE ?_ d e f h l u j o g B;clear d e f h l u j o g B;intro d e f h l u j o g;have I:=H.out;clear H
   by_cases F:k%2=1
   ·rw[if_pos F]at I;have H:=ie I;clear I
    have t9:(Int.tmod (k:Int) 2==1)=true:=by
     rw[show Int.tmod (k:Int) 2=1 by rw[Int.tmod_eq_emod_of_nonneg (by omega)];omega]
     rfl
    have t:=l.cell
    go_wp2_with fail
    refine(Iv o.wr rfl).mono ?_;rintro ee w9 ⟨MT,MK,MR,MM,rfl,y,LJ,B⟩;clear t;refine GE ?_ d e f h l u j o g B;clear d e f h l u j o g B;intro d e f h l u j o g;clear o;have t:=l.cell
    have P:=l.frozen
    go_upto_region 12 with fail
    clear t P;generalize x:(w9.setCell _ _).setCell _ _=wA at *;have c:=ac.of2 l x;replace d:=d.s c;replace e:=e.s c;replace f:=f.s c;replace h:=h.s c;replace u:=u.s c;replace j:=j.s c;replace y:=y.s c;replace g:=bi g c (by omega)
    replace l:=c.box;clear c x;clear t9;clear F;have C:=f.cell;have t:=l.cell
    go_wp2_with fail
    refine(gk u.wr y.wr (by omega) (by omega) rfl).mono ?_;rintro ee hE ⟨LY,HJ,bH,LB,rfl,r,LK,B⟩;clear C t;refine GE ?_ d e f h l u j y g B;clear d e f h l u j y g B;intro d e f h l u j y g
    clear u y;have C:=f.cell;have N:=f.frozen
    go_upto_region 13 with fail
    clear C N;generalize x:(hE.setCell _ _).setCell _ _=MC at *;have c:=ac.of2 f x;replace d:=d.s c;replace e:=e.s c;replace h:=h.s c;replace l:=l.s c;replace j:=j.s c;replace r:=r.s c;replace g:=bi g c (by omega);replace f:=c.box
    clear c x;have bC:=hM.out;have D:=h.cell
    go_wp2_with fail
    refine(ip j.wr (by omega) (Int.le_trans (by decide) Q.out.1) (Int.le_trans Q.out.2 (by decide)) rfl).mono ?_;rintro ee hF ⟨LZ,HK,bN,LC,rfl,E,LM,B⟩;clear D;refine zo ?_ d e f h l j r g B;clear d e f h l j r g B;intro d e f h l j r g;clear j bC;have D:=h.cell;have O:=h.frozen
    go_upto_region 14 with fail
    clear D O;generalize x:(hF.setCell _ _).setCell _ _=MD at *;have c:=ac.of2 h x;replace d:=d.s c;replace e:=e.s c;replace f:=f.s c;replace l:=l.s c;replace r:=r.s c;replace E:=E.s c;replace g:=bi g c (by omega);replace h:=c.box
    clear c x
    have bA:bH<=1000*(k+1):=by omega
    have bB:bN<=2+4*(k+1):=by omega
    have S:=hV.out;have U:=hW.out;go_wp2;clear S U
    go_roundw
    case rel=>exact ⟨k+1,by go_num,_,_,_,_,_,_,_,_,_,_,d,e,f,h,r,E,bA,bB,qT,hN.out,H.out,g.out⟩
    case measure=>simp [intOf];omega
   ·rw[if_neg F]at I;have H:=ie I;clear I
    have t9:(Int.tmod (k:Int) 2==1)=false:=by
     rw[show Int.tmod (k:Int) 2=0 by rw[Int.tmod_eq_emod_of_nonneg (by omega)];omega]
     rfl
    have y:=o;have LJ:=LI;clear o
    go_upto_region 12 with fail
    clear t9;clear F;have C:=f.cell;have t:=l.cell
    go_wp2_with fail
    refine(gk u.wr y.wr (by omega) (by omega) rfl).mono ?_;rintro ee hE ⟨LY,HJ,bH,LB,rfl,r,LK,B⟩;clear C t;refine gv ?_ d e f h j g B;clear d e f h j g B;intro d e f h j g;clear u y;have C:=f.cell;have N:=f.frozen
    go_upto_region 13 with fail
    clear C N;generalize x:(hE.setCell _ _).setCell _ _=MC at *;have c:=ac.of2 f x;replace d:=d.s c;replace e:=e.s c;replace h:=h.s c;replace j:=j.s c;replace r:=r.s c;replace g:=bi g c (by omega);replace f:=c.box;clear c x;have bC:=hM.out
    have D:=h.cell
    go_wp2_with fail
    refine(ip j.wr (by omega) (Int.le_trans (by decide) Q.out.1) (Int.le_trans Q.out.2 (by decide)) rfl).mono ?_;rintro ee hF ⟨LZ,HK,bN,LC,rfl,E,LM,B⟩;clear D;refine gv ?_ d e f h r g B;clear d e f h r g B;intro d e f h r g;clear j bC;have D:=h.cell
    have O:=h.frozen
    go_upto_region 14 with fail
    clear D O;generalize x:(hF.setCell _ _).setCell _ _=MD at *;have c:=ac.of2 h x;replace d:=d.s c;replace e:=e.s c;replace f:=f.s c;replace r:=r.s c;replace E:=E.s c;replace g:=bi g c (by omega);replace h:=c.box;clear c x
    have bA:bH<=1000*(k+1):=by omega
    have bB:bN<=2+4*(k+1):=by omega
    have S:=hV.out;have U:=hW.out;go_wp2;clear S U
    go_roundw
    case rel=>exact ⟨k+1,by go_num,_,_,_,_,_,_,_,_,_,_,d,e,f,h,r,E,bA,bB,qT,hN.out,H.out,g.out⟩
    case measure=>simp [intOf];omega
theorem JD{w:World}{n a b:Int}(hr:gU n=(a,b)):Calls prog 138 #[.int .i64 n] w (W2 w 1000000 a b):=by
 by_cases h1:n < 2
 ·unfold gU at hr
  rw[if_pos (.inl h1)]at hr
  injection hr with e1 e2
  subst e1;subst e2;exact EM h1
 ·by_cases h2:1000 < n
  ·unfold gU at hr
   rw[if_pos (.inr h2)]at hr
   injection hr with e1 e2
   subst e1;subst e2;exact EK h2
  ·exact EL (by omega) (by omega) hr
