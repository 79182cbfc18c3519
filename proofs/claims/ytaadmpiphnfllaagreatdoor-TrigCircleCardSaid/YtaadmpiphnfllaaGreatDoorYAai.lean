/-
 Contracts that the proof rests on.
-/
import Derived.Test.YtaadmpiphnfllaaGreatDoorYAah
namespace Go.Proofs.YtaadmpiphnfllaaGreatDoor
set_option maxHeartbeats 1000000
open Go.RowKit
set_option linter.unusedVariables false
theorem wSum{w:World}{A B:Option Addr}{n c m d a b:Nat}(s t:Bool){r:Int}(h:Rd w A n c a)(k:Rd w B m d b)(hn:n≤1073741824)(hm:m≤1073741824)(hr:sg s a+sg t b=r):
  Calls Tryz.prog 86 #[.bool s,.slice A n c,.bool t,.slice B m d] w (W1 w (n+m+1) r):=by
 by_cases hs:s=t
 ·subst hs
  have HR:Hid (sg s (a+b)=r):=Lib.hid (by rw [←hr];cases s <;> simp [sg] <;> omega)
  have hq:(s==s)=true:=by simp
  clear hr
  go_enter Tryz.func86,Tryz.ntmps86
  go_wp2_with (first
   | (go_at_call 137;((with_reducible refine (vAdd (h.below (bel1 _ _)) (k.below (bel1 _ _)) hn hm).mono ?_);rintro e w1 ⟨A1,n1,c1,rfl,h1,k1,B1⟩))
   | (go_at_call 81;((with_reducible refine (wSigned s h1).mono ?_);rintro e w2 ⟨s2,A2,n2,c2,rfl,h2,k2,B2⟩;obtain⟨hc,hf⟩:=bcell (bt B1 B2))))
  have X:=(Bx.new w false none 0 0).below (bt B1 B2);exact bodyPost_ret (v:= .agg #[.bool s2,.slice A2 n2 c2]) (by simp [results,Tryz.results86,go_sem,X.cell0,X.cell1]) rfl ⟨s2,A2,n2,c2,rfl,HR.out▸h2.st X _ _,by omega,st2 (bt (bel1 _ _) (bt B1 B2)) (Nat.le_refl _) _ _⟩
 ·have hq:(s==t)=false:=by simpa using hs
  have hs':t=!s:=by cases s <;> cases t <;> simp_all
  by_cases hab:b≤a
  ·have HR:Hid (sg s (a-b)=r):=Lib.hid (by rw [←hr,hs'];cases s <;> simp [sg] <;> omega)
   have HS:=Lib.hid hs;clear hr hs' hs
   go_enter Tryz.func86,Tryz.ntmps86
   go_wp2_with (first
    | (go_at_call 138;((with_reducible refine (vSub (h.below (bel1 _ _)) (k.below (bel1 _ _)) hab).mono ?_);rintro e w1 ⟨A1,n1,c1,rfl,h1,k1,B1⟩))
    | (go_at_call 81;((with_reducible refine (wSigned s h1).mono ?_);rintro e w2 ⟨s2,A2,n2,c2,rfl,h2,k2,B2⟩;obtain⟨hc,hf⟩:=bcell (bt B1 B2))))
   have X:=(Bx.new w false none 0 0).below (bt B1 B2);exact bodyPost_ret (v:= .agg #[.bool s2,.slice A2 n2 c2]) (by simp [results,Tryz.results86,go_sem,X.cell0,X.cell1]) rfl ⟨s2,A2,n2,c2,rfl,HR.out▸h2.st X _ _,by omega,st2 (bt (bel1 _ _) (bt B1 B2)) (Nat.le_refl _) _ _⟩
  ·have HR:Hid (sg t (b-a)=r):=Lib.hid (by rw [←hr,hs'];cases s <;> simp [sg] <;> omega)
   have HS:=Lib.hid hs
   have hlt:a < b:=by omega
   have hle:a≤b:=by omega
   clear hr hs' hs hab
   go_enter Tryz.func86,Tryz.ntmps86
   go_wp2_with (first
    | (go_at_call 138;((with_reducible refine (vSub_lt (h.below (bel1 _ _)) (k.below (bel1 _ _)) hlt).mono ?_);rintro e w0 ⟨rfl,B0⟩))
    | (go_at_call 138;((with_reducible refine (vSub (k.below (bt (bel1 _ _) B0)) (h.below (bt (bel1 _ _) B0)) hle).mono ?_);rintro e w1 ⟨A1,n1,c1,rfl,h1,k1,B1⟩))
    | (go_at_call 81;((with_reducible refine (wSigned t h1).mono ?_);rintro e w2 ⟨s2,A2,n2,c2,rfl,h2,k2,B2⟩;obtain⟨hc,hf⟩:=bcell (bt B0 (bt B1 B2)))))
   have X:=(Bx.new w false none 0 0).below (bt B0 (bt B1 B2));exact bodyPost_ret (v:= .agg #[.bool s2,.slice A2 n2 c2]) (by simp [results,Tryz.results86,go_sem,X.cell0,X.cell1]) rfl ⟨s2,A2,n2,c2,rfl,HR.out▸h2.st X _ _,by omega,st2 (bt (bel1 _ _) (bt B0 (bt B1 B2))) (Nat.le_refl _) _ _⟩
theorem wAdd{w:World}{A B:Option Addr}{n c m d:Nat}{s t:Bool}{x y r:Int}(h:Wr w s A n c x)(k:Wr w t B m d y)(hn:n≤1073741824)(hm:m≤1073741824)(hr:x+y=r):
  Calls Tryz.prog 45 #[.agg #[.bool s,.slice A n c],.agg #[.bool t,.slice B m d]] w (W1 w (n+m+1) r):=by
 obtain⟨a,h,e1⟩:=h;obtain⟨b,k,e2⟩:=k
 have HR:Hid (sg s a+sg t b=r):=Lib.hid (by rw [←hr,e1,e2])
 clear hr e1 e2
 go_enter Tryz.func45,Tryz.ntmps45
 go_wp2_with (first
  | (go_at_call 86;((with_reducible refine (wSum s t (h.below (bel3 _ _ _ _)) (k.below (bel3 _ _ _ _)) hn hm HR.out).mono ?_);rintro e w2 ⟨s2,A2,n2,c2,rfl,h2,k2,B2⟩;obtain⟨hc,hf⟩:=bcell B2)))
 have X:Bx w2 (w.heap.size+2) false none 0 0:=(Bx.newAt _ (by simp) false none 0 0).below B2
 exact bodyPost_ret (v:= .agg #[.bool s2,.slice A2 n2 c2]) (by simp [results,Tryz.results45,go_sem,X.cell0,X.cell1]) rfl ⟨s2,A2,n2,c2,rfl,h2.st X _ _,k2,st2 (bt (bel3 _ _ _ _) B2) (by omega) _ _⟩
theorem wSub{w:World}{A B:Option Addr}{n c m d:Nat}{s t:Bool}{x y r:Int}(h:Wr w s A n c x)(k:Wr w t B m d y)(hn:n≤1073741824)(hm:m≤1073741824)(hr:x-y=r):
  Calls Tryz.prog 146 #[.agg #[.bool s,.slice A n c],.agg #[.bool t,.slice B m d]] w (W1 w (n+m+1) r):=by
 obtain⟨a,h,e1⟩:=h;obtain⟨b,k,e2⟩:=k
 have HR:Hid (sg s a+sg (!t) b=r):=Lib.hid (by rw [←hr,←e1,←e2];cases t <;> simp [sg] <;> omega)
 clear hr e1 e2
 go_enter Tryz.func146,Tryz.ntmps146
 go_wp2_with (first
  | (go_at_call 86;((with_reducible refine (wSum s (!t) (h.below (bel3 _ _ _ _)) (k.below (bel3 _ _ _ _)) hn hm HR.out).mono ?_);rintro e w2 ⟨s2,A2,n2,c2,rfl,h2,k2,B2⟩;obtain⟨hc,hf⟩:=bcell B2)))
 have X:Bx w2 (w.heap.size+2) false none 0 0:=(Bx.newAt _ (by simp) false none 0 0).below B2
 exact bodyPost_ret (v:= .agg #[.bool s2,.slice A2 n2 c2]) (by simp [results,Tryz.results146,go_sem,X.cell0,X.cell1]) rfl ⟨s2,A2,n2,c2,rfl,h2.st X _ _,k2,st2 (bt (bel3 _ _ _ _) B2) (by omega) _ _⟩
def RowIn (w:World)(a:Option Addr)(len cap:Nat)(zs:List Int):Prop:=
 (a=none∧len=0∧cap=0∧zs=[])∨
 ∃x,a=some x∧len≤cap∧cap≤maxLen∧zs.length=cap∧(∀i,i < zs.length→w.cell? (x.add i)=some (.int .u32 (zs.getD i 0)))∧∀n ∈ zs,(Lit.int .u32 n).wf=true
theorem RowIn.len{w:World}{a:Option Addr}{len cap:Nat}{zs:List Int}(h:RowIn w a len cap zs):len≤9223372036854775807:=by
 rcases h with⟨_,rfl,_,_⟩ | ⟨x,_,h1,h2,_⟩
 ·omega
 ·unfold maxLen at h2;omega
end Go.Proofs.YtaadmpiphnfllaaGreatDoor
