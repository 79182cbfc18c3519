/-
 Contracts that the proof rests on.
-/
import Derived.BigQuiet
import Derived.Deep.QuietTactic
import Derived.Test.YtomikokonmikgaaGreatDoorRows
import Derived.WalkKit
import Derived.WalkLawsBesides
import Derived.WalkSpells
import Derived.Test.YtomikokonmikgaaGreatDoorYBac
namespace Go.Proofs.YtomikokonmikgaaGreatDoor
set_option maxHeartbeats 400000
open Go.RowKit
set_option linter.unusedVariables false
theorem cut_any (w:World)(b:Nat)(A:Option Addr)(n c:Nat)(xs:List Nat)(h:Sl w b A n c xs):
  Calls Tryz.prog 186 #[.slice A n c] w fun e w'=>e= .returned (.slice A (limbs (val xs)).length c)/\w=w':=by
 have hc:=h.cap;have hb:=h.big
 go_enter Tryz.func186,Tryz.ntmps186
 go_wp2
 go_loop [3] (fun i=>∃k:Nat,k<=n/\i= .int .i64 k/\val (xs.drop k)=0) (fun i=>(intOf i).toNat)
 case atStart=>exact ⟨n,Nat.le_refl _,rfl,by rw[List.drop_of_length_le (by rw[h.len];omega)];rfl⟩
 case round=>
  obtain⟨k,hk,rfl,hz⟩:=hrel;have HZ:=Lib.hid hz;clear hz
  by_cases hk0:0 < k
  ·obtain⟨o,rfl,hcell⟩:=h.at (by omega);have hck:=hcell (k-1) (by omega)
   have hi:((k:Int)-1).toNat=k-1:=by omega
   clear hcell
   by_cases hx:xs.getD (k-1) 0=0
   ·rw[hx]at hck;have HX:=Lib.hid hx;clear hx;go_wp2
    go_round
    case rel=>
     refine⟨k-1,by omega,by go_num,?_⟩
     have hl:=h.len
     rw[val_drop (by omega),show k-1+1=k by omega,HZ.out,HX.out]
    case measure=>simp [intOf];omega
   ·have hx':((xs.getD (k-1) 0:Nat):Int)≠0:=by omega
    have hl:=h.len
    have HT:Hid (k=(limbs (val xs)).length):=by
     have:=take_eq_limbs h.lim (by omega) HZ.out (fun _=>hx)
     show k=_
     rw[<-this,List.length_take];omega
    clear hx hl
    revert hck hx'
    generalize xs.getD (k-1) 0=x
    intro hck hx'
    go_wp2
    go_ret
    exact⟨by rw[<-HT.out];rfl,rfl⟩
  ·have hk0':k=0:=by omega
   subst hk0';go_wp2
   go_ret
   have:=take_eq_limbs h.lim (by omega) HZ.out (fun hh=>absurd hh (by omega))
   exact⟨by rw[<-this];simp,rfl⟩
theorem info32:(Tryz.prog.info? 92).map (fun i=>(i.zero,i.size,i.bytes))=some (some (.int .u32 0),1,4):=by kernel_rfl
theorem size32:(Tryz.prog.info? 92).map (·.size)=some 1:=by kernel_rfl
theorem run_make32 (n:Nat)(hn:n<=1099511627776)(w:World):
  (Instr.makeSlice 25 (.int .i64 (n:Int)) (.int .i64 (n:Int))).run Tryz.prog w= .ok (.slice (some ⟨w.heap.size,0,none⟩) n n) (w.alloc (.cells (arr (List.replicate n 0)) 92)):=by
 obtain⟨i,hi,hz,hs,hby⟩:=info_parts info32;have hr:=run_make (P:=Tryz.prog) w 25 92 i _ Tryz.underlying25 hi hz .i64 .i64 n n (by omega) (by omega) (by rw[hby];omega) (by omega);rw[hr,hs,Nat.mul_one,Int.toNat_natCast,made_eq]
theorem run_make32' (n:Nat)(z:Int)(hz:z=n)(hn:n<=1099511627776)(w:World):
  (Instr.makeSlice 25 (.int .i64 z) (.int .i64 z)).run Tryz.prog w= .ok (.slice (some ⟨w.heap.size,0,none⟩) n n) (w.alloc (.cells (arr (List.replicate n 0)) 92)):=by
 subst hz;exact run_make32 n hn w
theorem lit1 (W:World)(x:Nat)(hx:x < 4294967296):Sl (W.alloc (.cells #[.int .u32 (x:Int)] 92)) W.heap.size (some ⟨W.heap.size,0,none⟩) 1 1 [x]:=(Own.new W [x]).all (Lim.cons hx Lim.nil) (by simp) (Nat.le_refl _)
theorem lit2 (W:World)(x y:Nat)(hx:x < 4294967296)(hy:y < 4294967296):Sl (W.alloc (.cells #[.int .u32 (x:Int),.int .u32 (y:Int)] 92)) W.heap.size (some ⟨W.heap.size,0,none⟩) 2 2 [x,y]:=
 (Own.new W [x,y]).all (Lim.cons hx (Lim.cons hy Lim.nil)) (by simp) (Nat.le_refl _)
theorem alloc_below (W:World)(o:Obj):Below W.heap.size W (W.alloc o):=(Below.refl _ _).alloc (Nat.le_refl _) _
theorem one_limb (w:World):Sl (w.alloc (.cells #[.int .u32 1] 92)) w.heap.size (some ⟨w.heap.size,0,none⟩) 1 1 [1]:=(Own.new w [1]).all (Lim.cons (by decide) Lim.nil) (by simp) (Nat.le_refl _)
def Made (w w':World)(l:List Nat)(g:Nat)(A:Option Addr)(c:Nat):Prop:=
 Sl w' g A l.length c l/\(0 < l.length->w.heap.size<=g/\A=some ⟨g,0,none⟩/\Own w' g l)
def Ret1 (w:World)(l:List Nat)(e:Ending)(w':World):Prop:=
 ∃g A c,e= .returned (.slice A l.length c)/\Made w w' l g A c/\Below w.heap.size w w'
theorem trim_any (w:World)(b:Nat)(A:Option Addr)(n c:Nat)(xs:List Nat)(h:Sl w b A n c xs):
  Calls Tryz.prog 124 #[.slice A n c] w (Ret1 w (limbs (val xs))):=by
 have hle:=val_limbs_le h.lim;have hlen:=h.len;have hsl:=h.take (k:=(limbs (val xs)).length) (by omega);rw[limbs_prefix h.lim]at hsl;have HC:=Lib.hid (cut_any w b A n c xs h);have hbig:=hsl.big;have hcap:=hsl.cap;clear hle hlen h;have hlim:=lim_limbs (val xs)
 revert HC hsl hbig hcap hlim
 generalize limbs (val xs)=l
 intro hsl HC hbig hcap hlim
 by_cases h0:l.length=0
 ·obtain rfl:l=[]:=List.eq_nil_of_length_eq_zero h0
  go_enter Tryz.func124,Tryz.ntmps124
  go_wp2_with (go_at_call 186;refine HC.out.mono ?_;rintro e w' ⟨rfl,rfl⟩)
  go_ret
  exact⟨0,none,0,rfl,⟨Sl.nil,fun h=>absurd h (by decide)⟩,Below.refl _ _⟩
 ·have h0':((l.length:Int)==0)=false:=by simpa using h0
  have hmk:=run_make32 l.length hbig
  go_enter Tryz.func124,Tryz.ntmps124
  go_wp2_with (first
   | (go_at_call 186;refine HC.out.mono ?_;rintro e w' ⟨rfl,rfl⟩)
   | (with_reducible refine wpList_copy32 rfl (.tmp 12) (.tmp 13) 25 rfl 92 Tryz.underlying25 size32 w.heap.size l.length l.length b A l.length c (List.replicate l.length 0) l rfl rfl (Own.new w _) (hsl.below ((Below.refl _ _).alloc (Nat.le_refl _) _)) (by simp) (Nat.le_refl _) ?_;intro w1 ho1 hg1))
  go_ret
  have ho2:Own w1 w.heap.size l:=by simpa using ho1
  exact⟨w.heap.size,some ⟨w.heap.size,0,none⟩,l.length,rfl,⟨ho2.all hlim hbig (Nat.le_refl _),fun _=>⟨Nat.le_refl _,rfl,ho2⟩⟩,((Below.refl _ _).alloc (Nat.le_refl _) _).trans (below_grown hg1 (Nat.le_refl _) (by simp))⟩
