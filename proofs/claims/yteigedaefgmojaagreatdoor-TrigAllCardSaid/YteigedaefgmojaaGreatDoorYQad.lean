/-
 Contracts that the proof rests on.
-/
import Derived.BigQuiet
import Derived.Deep.QuietTactic
import Derived.Test.YteigedaefgmojaaGreatDoorRows
import Derived.WalkKit
import Derived.WalkLawsBesides
import Derived.WalkSpells
import Derived.Test.YteigedaefgmojaaGreatDoorYQac
namespace Go.Proofs.YteigedaefgmojaaGreatDoor
open Go.Proofs.Tryz
set_option maxHeartbeats 400000
open Go.RowKit
set_option linter.unusedVariables false
theorem dO (w:World)(b:Nat)(A:Option Addr)(n c:Nat)(xs:List Nat)(h:Sl w b A n c xs):
  Calls prog 223 #[.slice A n c] w fun e w'=>e= .returned (.slice A (ag (af xs)).length c)/\w=w':=by
 have p:=h.cap;have hb:=h.big
 go_enter func223,ntmps223
 go_wp2
 go_loop [3] (fun i=>∃k:Nat,k<=n/\i= .int .i64 k/\af (xs.drop k)=0) (fun i=>(intOf i).toNat)
 case atStart=>exact ⟨n,Nat.le_refl _,rfl,by rw[List.drop_of_length_le (by rw[h.len];omega)];rfl⟩
 case round=>
  obtain⟨k,q,rfl,hz⟩:=hrel;have g:=Lib.hid hz;clear hz
  by_cases m:0 < k
  ·obtain⟨o,rfl,hcell⟩:=h.at (by omega);have a:=hcell (k-1) (by omega)
   have hi:((k:Int)-1).toNat=k-1:=by omega
   clear hcell
   by_cases hx:xs.getD (k-1) 0=0
   ·rw[hx]at a;have l:=Lib.hid hx;clear hx;go_wp2
    go_round
    case rel=>
     refine⟨k-1,by omega,by go_num,?_⟩
     have hl:=h.len
     rw[aO (by omega),show k-1+1=k by omega,g.out,l.out]
    case measure=>simp [intOf];omega
   ·have f:((xs.getD (k-1) 0:Nat):Int)≠0:=by omega
    have hl:=h.len
    have j:Hid (k=(ag (af xs)).length):=by
     have:=dF h.lim (by omega) g.out (fun _=>hx)
     show k=_
     rw[<-this,List.length_take];omega
    clear hx hl
    revert a f
    generalize xs.getD (k-1) 0=x
    intro a f
    go_wp2
    go_ret
    exact⟨by rw[<-j.out];rfl,rfl⟩
  ·have d:k=0:=by omega
   subst d;go_wp2
   go_ret
   have:=dF h.lim (by omega) g.out (fun hh=>absurd hh (by omega))
   exact⟨by rw[<-this];simp,rfl⟩
theorem xN:(prog.info? 103).map (fun i=>(i.zero,i.size,i.bytes))=some (some (.int .u32 0),1,4):=by kernel_rfl
theorem qM:(prog.info? 103).map (·.size)=some 1:=by kernel_rfl
theorem lk (n:Nat)(hn:n<=1099511627776)(w:World):
  (Instr.makeSlice 41 (.int .i64 (n:Int)) (.int .i64 (n:Int))).run prog w= .ok (.slice (some ⟨w.heap.size,0,none⟩) n n) (w.alloc (.cells (iC (List.replicate n 0)) 103)):=by
 obtain⟨i,hi,hz,hs,a⟩:=info_parts xN;have b:=run_make (P:=prog) w 41 103 i _ Tryz.underlying41 hi hz .i64 .i64 n n (by omega) (by omega) (by rw[a];omega) (by omega);rw[b,hs,Nat.mul_one,Int.toNat_natCast,Cu]
theorem db (n:Nat)(z:Int)(hz:z=n)(hn:n<=1099511627776)(w:World):
  (Instr.makeSlice 41 (.int .i64 z) (.int .i64 z)).run prog w= .ok (.slice (some ⟨w.heap.size,0,none⟩) n n) (w.alloc (.cells (iC (List.replicate n 0)) 103)):=by
 subst hz;exact lk n hn w
theorem lit1 (W:World)(x:Nat)(hx:x < 4294967296):Sl (W.alloc (.cells #[.int .u32 (x:Int)] 103)) W.heap.size (some ⟨W.heap.size,0,none⟩) 1 1 [x]:=(bX.new W [x]).all (aR.cons hx aR.nil) (by simp) (Nat.le_refl _)
theorem lit2 (W:World)(x y:Nat)(hx:x < 4294967296)(hy:y < 4294967296):Sl (W.alloc (.cells #[.int .u32 (x:Int),.int .u32 (y:Int)] 103)) W.heap.size (some ⟨W.heap.size,0,none⟩) 2 2 [x,y]:=
 (bX.new W [x,y]).all (aR.cons hx (aR.cons hy aR.nil)) (by simp) (Nat.le_refl _)
theorem aI (W:World)(o:Obj):Below W.heap.size W (W.alloc o):=(Below.refl _ _).alloc (Nat.le_refl _) _
theorem iT (w:World):Sl (w.alloc (.cells #[.int .u32 1] 103)) w.heap.size (some ⟨w.heap.size,0,none⟩) 1 1 [1]:=(bX.new w [1]).all (aR.cons (by decide) aR.nil) (by simp) (Nat.le_refl _)
def lH (w w':World)(l:List Nat)(g:Nat)(A:Option Addr)(c:Nat):Prop:=
 Sl w' g A l.length c l/\(0 < l.length->w.heap.size<=g/\A=some ⟨g,0,none⟩/\bX w' g l)
def fr (w:World)(l:List Nat)(e:Ending)(w':World):Prop:=
 ∃g A c,e= .returned (.slice A l.length c)/\lH w w' l g A c/\Below w.heap.size w w'
theorem bP (w:World)(b:Nat)(A:Option Addr)(n c:Nat)(xs:List Nat)(h:Sl w b A n c xs):
  Calls prog 181 #[.slice A n c] w (fr w (ag (af xs))):=by
 have p:=aM h.lim;have i:=h.len;have d:=h.take (k:=(ag (af xs)).length) (by omega);rw[dB h.lim]at d;have m:=Lib.hid (dO w b A n c xs h);have a:=d.big;have g:=d.cap;clear p i h;have f:=dn (af xs)
 revert m d a g f
 generalize ag (af xs)=l
 intro d m a g f
 by_cases r:l.length=0
 ·obtain rfl:l=[]:=List.eq_nil_of_length_eq_zero r
  go_enter func181,ntmps181
  go_wp2_with (go_at_call 223;refine m.out.mono ?_;rintro e w' ⟨rfl,rfl⟩)
  go_ret
  exact⟨0,none,0,rfl,⟨Sl.nil,fun h=>absurd h (by decide)⟩,Below.refl _ _⟩
 ·have s:((l.length:Int)==0)=false:=by simpa using r
  have t:=lk l.length a
  go_enter func181,ntmps181
  go_wp2_with (first
   | (go_at_call 223;refine m.out.mono ?_;rintro e w' ⟨rfl,rfl⟩)
   | (with_reducible refine fv rfl (.tmp 12) (.tmp 13) 41 rfl 103 Tryz.underlying41 qM w.heap.size l.length l.length b A l.length c (List.replicate l.length 0) l rfl rfl (bX.new w _) (d.below ((Below.refl _ _).alloc (Nat.le_refl _) _)) (by simp) (Nat.le_refl _) ?_;intro w1 q o))
  go_ret
  have j:bX w1 w.heap.size l:=by simpa using q
  exact⟨w.heap.size,some ⟨w.heap.size,0,none⟩,l.length,rfl,⟨j.all f a (Nat.le_refl _),fun _=>⟨Nat.le_refl _,rfl,j⟩⟩,((Below.refl _ _).alloc (Nat.le_refl _) _).trans (dL o (Nat.le_refl _) (by simp))⟩
