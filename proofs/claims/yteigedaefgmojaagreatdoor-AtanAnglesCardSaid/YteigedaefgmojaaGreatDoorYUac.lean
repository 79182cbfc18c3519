/-
 Contracts that the proof rests on.
-/
import Derived.Below
import Derived.Carry
import Derived.Deep.Draws
import Derived.Deep.MidRow
import Derived.Laws.CopyOwn
import Derived.Laws.MakeOwn
import Derived.Laws.OwnMore
import Derived.Laws.Rows
import Derived.Lib.Hide
import Derived.Test.YteigedaefgmojaaGreatDoorYUaa
namespace Go.Proofs.YteigedaefgmojaaGreatDoor
open Go.RowKit
set_option linter.unusedVariables false
def u32 (x:Nat):Value:= .int .u32 (x:Int)
def j6 (l:List Nat):Array Value:=(l.map u32).toArray
def Sl (w:World)(b:Nat)(A:Option Addr)(n c:Nat)(xs:List Nat):Prop:=
 xs.length=n/\n<=c/\n<=1099511627776/\aV xs/\(0 < n->∃o,A=some ⟨b,o,none⟩/\∀k,k < n->w.cell? ⟨b,o+k,none⟩=some (.int .u32 (xs.getD k 0:Nat)))
def du (w:World)(g:Nat)(l:List Nat):Prop:=w.heap[g]?=some (.cells (j6 l) 103 (0,0))
section
variable {w w':World} {b g n c:Nat} {A:Option Addr} {xs l:List Nat}
theorem Sl.len (h:Sl w b A n c xs):xs.length=n:=h.1
theorem Sl.cap (h:Sl w b A n c xs):n<=c:=h.2.1
theorem Sl.big (h:Sl w b A n c xs):n<=1099511627776:=h.2.2.1
theorem Sl.lim (h:Sl w b A n c xs):aV xs:=h.2.2.2.1
theorem Sl.at (h:Sl w b A n c xs)(hn:0 < n):∃o,A=some ⟨b,o,none⟩/\∀k,k < n->w.cell? ⟨b,o+k,none⟩=some (.int .u32 (xs.getD k 0:Nat)):=h.2.2.2.2 hn
theorem Sl.lt (h:Sl w b A n c xs)(hn:0 < n):b < w.heap.size:=by
 obtain⟨o,_,a⟩:=h.at hn;exact block_lt_of_cell (a 0 hn)
theorem Sl.keep (h:Sl w b A n c xs)(hk:0 < n->w'.heap[b]?=w.heap[b]?):Sl w' b A n c xs:=
 ⟨h.1,h.2.1,h.2.2.1,h.2.2.2.1,fun hn=>by
  obtain⟨o,e,a⟩:=h.at hn
  exact⟨o,e,fun k hk'=>(World.cell?_of_block (w:=w) (hk hn)).trans (a k hk')⟩⟩
theorem Sl.below (h:Sl w b A n c xs)(hb:Below w.heap.size w w'):Sl w' b A n c xs:=h.keep fun hn=>hb.block b (h.lt hn)
theorem Sl.grown (h:Sl w b A n c xs){row:Option Nat}(hg:w.grownBy w' row)(hne:0 < n->some b≠row):Sl w' b A n c xs:=h.keep fun hn=>hg.block b (h.lt hn) (hne hn)
theorem Sl.drew (h:Sl w b A n c xs):Sl w.drew b A n c xs:=h
theorem Sl.drewN (h:Sl w b A n c xs)(k:Nat):Sl (w.drewN k) b A n c xs:=h
theorem Sl.nil:Sl w b none 0 0 []:=⟨rfl,Nat.le_refl _,by decide,aV.nil,fun h=>absurd h (by decide)⟩
theorem Sl.take (h:Sl w b A n c xs){k:Nat}(hk:k<=n):Sl w b A k c (xs.take k):=
 ⟨by rw[List.length_take,h.len,Nat.min_eq_left hk],Nat.le_trans hk h.cap,Nat.le_trans hk h.big,h.lim.take k,fun hn=>by
  obtain⟨o,e,a⟩:=h.at (by omega)
  refine⟨o,e,fun j hj=>?_⟩
  rw[a j (by omega),oq hj]⟩
theorem du.lt (h:du w g l):g < w.heap.size:=by
 rcases Nat.lt_or_ge g w.heap.size with hlt | hge
 ·exact hlt
 ·unfold du at h;rw[Array.getElem?_eq_none hge]at h;cases h
theorem du.keep (h:du w g l)(hk:w'.heap[g]?=w.heap[g]?):du w' g l:=hk.trans h
theorem du.below{B:Nat}(h:du w g l)(hb:Below B w w')(hB:g < B):du w' g l:=h.keep (hb.block g hB)
theorem du.grown (h:du w g l){row:Option Nat}(hg:w.grownBy w' row)(hne:some g≠row):du w' g l:=h.keep (hg.block g h.lt hne)
theorem du.cell (h:du w g l){i:Nat}(hi:i < l.length):w.cell? ⟨g,i,none⟩=some (.int .u32 (l.getD i 0:Nat)):=by
 rw[cell_of_row w g i _ _ (0,0) h]
 simp[j6,u32,hi]
theorem du.frozen (h:du w g l)(i:Nat):w.frozen? ⟨g,i,none⟩=false:=by
 unfold du at h
 simp[World.frozen?,h]
theorem du.set (h:du w g l)(i:Nat)(x:Nat):du (w.setCell ⟨g,i,none⟩ (.int .u32 (x:Int))) g (l.set i x):=by
 unfold du at h|-
 simp[World.setCell,Array.getElem?_modify,h,List.map_set,u32,j6]
theorem du.far (h:du w g l){p:Addr}(hp:g≠p.block)(u:Value):du (w.setCell p u) g l:=(Below.heap_setCell w p u g hp).trans h
theorem du.alloc (h:du w g l)(o:Obj):du (w.alloc o) g l:=(Below.heap_alloc w o g h.lt).trans h
theorem du.new (w:World)(l:List Nat):du (w.alloc (.cells (j6 l) 103)) w.heap.size l:=heap_alloc_new w _
theorem du.sl (h:du w g l)(hl:aV l){o n c:Nat}(hn:o+n<=l.length)(hc:n<=c)(hb:l.length<=1099511627776):Sl w g (some ⟨g,o,none⟩) n c ((l.drop o).take n):=
 ⟨by simp;omega,hc,by omega,(hl.drop o).take n,fun _=>⟨o,rfl,fun k hk=>by rw[h.cell (by omega),oq hk,gT]⟩⟩
theorem du.all (h:du w g l)(hl:aV l)(hb:l.length<=1099511627776){c:Nat}(hc:l.length<=c):Sl w g (some ⟨g,0,none⟩) l.length c l:=by
 have:=h.sl hl (o:=0) (n:=l.length) (c:=c) (by omega) hc hb
 simpa using this
theorem Fb (n:Nat):madeCells (Value.int .u32 0).cells n=j6 (List.replicate n 0):=by
 apply Array.ext
 ·simp[madeCells,j6]
 ·intro i h1 h2
  simp[madeCells,j6,u32,Value.cells,Nat.mod_one]
theorem aP{B:Nat}{a w:World}(h:Below B a w)(n:Nat):Below B a (w.drewN n):=⟨h.os,h.tape,h.output,h.size,h.block⟩
theorem dG (w:World)(row:Option Nat):w.grownBy w row:=⟨rfl,rfl,rfl,Nat.le_refl _,fun _ _ _=>rfl⟩
theorem i8{a b c:World}{row:Option Nat}(h:a.grownBy b row)(k:b.grownBy c row):a.grownBy c row:=
 ⟨k.os.trans h.os,k.tape.trans h.tape,k.output.trans h.output,Nat.le_trans h.size k.size,fun i hi hn=>(k.block i (Nat.lt_of_lt_of_le hi h.size) hn).trans (h.block i hi hn)⟩
theorem sE{a w:World}{row:Option Nat}(h:a.grownBy w row):a.grownBy w.drew row:=⟨h.os,h.tape,h.output,h.size,h.block⟩
theorem ln{a w:World}{row:Option Nat}(h:a.grownBy w row)(n:Nat):a.grownBy (w.drewN n) row:=⟨h.os,h.tape,h.output,h.size,h.block⟩
theorem fS{a w:World}{g i:Nat}(h:a.grownBy w (some g))(u:Value):a.grownBy (w.setCell ⟨g,i,none⟩ u) (some g):=
 ⟨h.os,h.tape,h.output,by simpa [World.setCell]using h.size,fun k hk hne=>(Below.heap_setCell w _ u k (by rintro rfl;exact hne rfl)).trans (h.block k hk hne)⟩
theorem eU{B g:Nat}{a w:World}(h:a.grownBy w (some g))(hg:B<=g)(hB:B<=a.heap.size):Below B a w:=⟨h.os,h.tape,h.output,h.size,fun i hi=>h.block i (by omega) (by simp;omega)⟩
theorem pN (w:World)(g:Nat)(cs:Array Value):w.grownBy (w.setRow g cs) (some g):=
 ⟨rfl,rfl,rfl,by simp[World.setRow],fun k _ hne=>setRow_other w g k cs (fun e=>hne (by rw[e]))⟩
theorem gL{P:Program}{w:World}{ops:Array Oper}{rest:List Oper}{o:Oper}{a:Act}{Q:Exit->Act->World->Prop}(hgd:o.guard=none)(d s:Operand)(t:TypeId)
  (ho:o.op= .call {callee:= .builtin .copy,args:= #[d,s],argTypes:= #[t,t]}) (elem:TypeId) (hu:P.underlying t=some (.slice elem)) (hsz:(P.info? elem).map (·.size)=some 1)
  (g n c b:Nat) (A:Option Addr) (m c':Nat) (zs xs:List Nat) (hd:a.eval d= .slice (some ⟨g,0,none⟩) n c) (hs:a.eval s= .slice A m c')
  (hg:du w g zs) (hx:Sl w b A m c' xs) (hz:zs.length=n) (hm:m<=n)
  (h:∀w',du w' g (xs ++zs.drop m)->w.grownBy w' (some g)->wpList P ops Q rest (a.put o.dst (goInt m)) w'):wpList P ops Q (o::rest) a w:=by
 have hl:=hx.len
 by_cases i:m=0
 ·obtain rfl:xs=[]:=List.eq_nil_of_length_eq_zero (by omega)
  refine wpList_copy_nothing hgd d s t t ho elem hu hsz _ _ n c m c' hd hs (by subst i;simp) ?_
  have:=h w (by subst i;simpa using hg) (dG _ _)
  subst i;exact this
 ·obtain⟨l,rfl,p⟩:=hx.at (by omega)
  have e:(xs.map u32).length=m:=by simpa using hl
  refine wpList_copy_own hgd d s t t ho elem hu hsz g 0 n c ⟨b,l,none⟩ m c' hd hs (j6 zs) _ hg (xs.map u32) (by rw[e];exact(Nat.min_eq_left hm).symm) ?_ ?_ ?_ ?_
  ·intro j v f
   have k:j < m:=by
    have:=(List.getElem?_eq_some_iff.1 f).1
    omega
   rw[Addr.add_mid,p j k];rw[List.getElem?_map]at f;rw[List.getD_eq_getElem?_getD]
   rcases hq:xs[j]? with _ | y
   ·rw[hq]at f;simp at f
   ·rw[hq]at f
    simp at f|-
    exact f
  ·simp[j6];omega
  ·intro v q
   obtain⟨y,_,rfl⟩:=List.mem_map.1 q
   rfl
  ·rw[e];refine h _ ?_ (pN _ _ _)
   have:=setRow_heap w g (j6 zs) ((j6 zs).toList.take 0 ++(xs.map u32 ++(j6 zs).toList.drop (0+m))).toArray _ _ hg
   unfold du
   rw[this]
   simp[j6]
theorem mT{P:Program}{f:FuncId}{args:Array Value}{w:World}{a n:Nat}{v:Value}
  (h:Calls P f args (w.drewN (a+n)) fun e w'=>e= .returned v/\w.drewN (a+n)=w'):
  Calls P f args (w.drewN (a+n)) fun e w''=>e= .returned v/\∃m,w''=w.drewN (a+m):=
 h.mono fun _ _ ⟨he,hm⟩=>⟨he,n,hm.symm⟩
theorem tu{P:Program}{f:FuncId}{args:Array Value}{w:World}{n:Nat}{v:Value}
  (h:Calls P f args (w.drewN n) fun e w'=>e= .returned v/\w.drewN n=w'):Calls P f args (w.drewN n) fun e w''=>e= .returned v/\∃m,w''=w.drewN m:=
 h.mono fun _ _ ⟨he,hm⟩=>⟨he,n,hm.symm⟩
end
abbrev Sl.b:= @Sl.below
class Mv (F:Prop) (w w':World) (G:outParam Prop):Prop where
 mv:F->Below w.heap.size w w'->G
theorem aF{w w':World}{a A c C d D g:Prop} [Mv a w w' A] [Mv c w w' C] [Mv d w w' D](h:A->C->D->g)(aa:a)(cc:c)(dd:d)(B:Below w.heap.size w w'):g:=h (Mv.mv aa B) (Mv.mv cc B) (Mv.mv dd B)
theorem aR{w w':World}{a A c C d D e E g:Prop} [Mv a w w' A] [Mv c w w' C] [Mv d w w' D] [Mv e w w' E](h:A->C->D->E->g)(aa:a)(cc:c)(dd:d)(ee:e)(B:Below w.heap.size w w'):g:=h (Mv.mv aa B) (Mv.mv cc B) (Mv.mv dd B) (Mv.mv ee B)
theorem dW{w w':World}{a A c C d D e E f F g:Prop} [Mv a w w' A] [Mv c w w' C] [Mv d w w' D] [Mv e w w' E] [Mv f w w' F](h:A->C->D->E->F->g)(aa:a)(cc:c)(dd:d)(ee:e)(ff:f)(B:Below w.heap.size w w'):g:=h (Mv.mv aa B) (Mv.mv cc B) (Mv.mv dd B) (Mv.mv ee B) (Mv.mv ff B)
theorem gv{w w':World}{a A c C d D e E f F i I g:Prop} [Mv a w w' A] [Mv c w w' C] [Mv d w w' D] [Mv e w w' E] [Mv f w w' F] [Mv i w w' I](h:A->C->D->E->F->I->g)(aa:a)(cc:c)(dd:d)(ee:e)(ff:f)(ii:i)(B:Below w.heap.size w w'):g:=h (Mv.mv aa B) (Mv.mv cc B) (Mv.mv dd B) (Mv.mv ee B) (Mv.mv ff B) (Mv.mv ii B)
theorem oG{w w':World}{a A c C d D e E f F i I j J g:Prop} [Mv a w w' A] [Mv c w w' C] [Mv d w w' D] [Mv e w w' E] [Mv f w w' F] [Mv i w w' I] [Mv j w w' J](h:A->C->D->E->F->I->J->g)(aa:a)(cc:c)(dd:d)(ee:e)(ff:f)(ii:i)(jj:j)(B:Below w.heap.size w w'):g:=h (Mv.mv aa B) (Mv.mv cc B) (Mv.mv dd B) (Mv.mv ee B) (Mv.mv ff B) (Mv.mv ii B) (Mv.mv jj B)
theorem zo{w w':World}{a A c C d D e E f F i I j J k K g:Prop} [Mv a w w' A] [Mv c w w' C] [Mv d w w' D] [Mv e w w' E] [Mv f w w' F] [Mv i w w' I] [Mv j w w' J] [Mv k w w' K](h:A->C->D->E->F->I->J->K->g)(aa:a)(cc:c)(dd:d)(ee:e)(ff:f)(ii:i)(jj:j)(kk:k)(B:Below w.heap.size w w'):g:=h (Mv.mv aa B) (Mv.mv cc B) (Mv.mv dd B) (Mv.mv ee B) (Mv.mv ff B) (Mv.mv ii B) (Mv.mv jj B) (Mv.mv kk B)
theorem GE{w w':World}{a A c C d D e E f F i I j J k K l L g:Prop} [Mv a w w' A] [Mv c w w' C] [Mv d w w' D] [Mv e w w' E] [Mv f w w' F] [Mv i w w' I] [Mv j w w' J] [Mv k w w' K] [Mv l w w' L](h:A->C->D->E->F->I->J->K->L->g)(aa:a)(cc:c)(dd:d)(ee:e)(ff:f)(ii:i)(jj:j)(kk:k)(ll:l)(B:Below w.heap.size w w'):g:=h (Mv.mv aa B) (Mv.mv cc B) (Mv.mv dd B) (Mv.mv ee B) (Mv.mv ff B) (Mv.mv ii B) (Mv.mv jj B) (Mv.mv kk B) (Mv.mv ll B)
theorem sX{w w':World}{a A c C d D e E f F i I j J k K l L m M g:Prop} [Mv a w w' A] [Mv c w w' C] [Mv d w w' D] [Mv e w w' E] [Mv f w w' F] [Mv i w w' I] [Mv j w w' J] [Mv k w w' K] [Mv l w w' L] [Mv m w w' M](h:A->C->D->E->F->I->J->K->L->M->g)(aa:a)(cc:c)(dd:d)(ee:e)(ff:f)(ii:i)(jj:j)(kk:k)(ll:l)(mm:m)(B:Below w.heap.size w w'):g:=h (Mv.mv aa B) (Mv.mv cc B) (Mv.mv dd B) (Mv.mv ee B) (Mv.mv ff B) (Mv.mv ii B) (Mv.mv jj B) (Mv.mv kk B) (Mv.mv ll B) (Mv.mv mm B)
theorem Lg{w w':World}{a A c C d D e E f F i I j J k K l L m M n N g:Prop} [Mv a w w' A] [Mv c w w' C] [Mv d w w' D] [Mv e w w' E] [Mv f w w' F] [Mv i w w' I] [Mv j w w' J] [Mv k w w' K] [Mv l w w' L] [Mv m w w' M] [Mv n w w' N](h:A->C->D->E->F->I->J->K->L->M->N->g)(aa:a)(cc:c)(dd:d)(ee:e)(ff:f)(ii:i)(jj:j)(kk:k)(ll:l)(mm:m)(nn:n)(B:Below w.heap.size w w'):g:=h (Mv.mv aa B) (Mv.mv cc B) (Mv.mv dd B) (Mv.mv ee B) (Mv.mv ff B) (Mv.mv ii B) (Mv.mv jj B) (Mv.mv kk B) (Mv.mv ll B) (Mv.mv mm B) (Mv.mv nn B)
theorem If{w w':World}{a A c C d D e E f F i I j J k K l L m M n N o O g:Prop} [Mv a w w' A] [Mv c w w' C] [Mv d w w' D] [Mv e w w' E] [Mv f w w' F] [Mv i w w' I] [Mv j w w' J] [Mv k w w' K] [Mv l w w' L] [Mv m w w' M] [Mv n w w' N] [Mv o w w' O](h:A->C->D->E->F->I->J->K->L->M->N->O->g)(aa:a)(cc:c)(dd:d)(ee:e)(ff:f)(ii:i)(jj:j)(kk:k)(ll:l)(mm:m)(nn:n)(oo:o)(B:Below w.heap.size w w'):g:=h (Mv.mv aa B) (Mv.mv cc B) (Mv.mv dd B) (Mv.mv ee B) (Mv.mv ff B) (Mv.mv ii B) (Mv.mv jj B) (Mv.mv kk B) (Mv.mv ll B) (Mv.mv mm B) (Mv.mv nn B) (Mv.mv oo B)
