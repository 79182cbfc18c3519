/-
 Contracts that the proof rests on.
-/
import Derived.Below
import Derived.Carry
import Derived.Deep.Draws
import Derived.Deep.MidRow
import Derived.Laws.CopyOwn
import Derived.Laws.MakeOwn
import Derived.Laws.OwnMore
import Derived.Laws.Rows
import Derived.Lib.Hide
import Derived.Test.YtomikokonmikgaaGreatDoorYTaa
namespace Go.Proofs.YtomikokonmikgaaGreatDoor
open Go.RowKit
set_option linter.unusedVariables false
def u32 (x:Nat):Value:= .int .u32 (x:Int)
def jK (l:List Nat):Array Value:=(l.map u32).toArray
def Sl (w:World)(b:Nat)(A:Option Addr)(n c:Nat)(xs:List Nat):Prop:=
 xs.length=n/\n<=c/\n<=1099511627776/\aP xs/\(0 < n->∃o,A=some ⟨b,o,none⟩/\∀k,k < n->w.cell? ⟨b,o+k,none⟩=some (.int .u32 (xs.getD k 0:Nat)))
def dk (w:World)(g:Nat)(l:List Nat):Prop:=w.heap[g]?=some (.cells (jK l) 92 (0,0))
section
variable {w w':World} {b g n c:Nat} {A:Option Addr} {xs l:List Nat}
theorem Sl.len (h:Sl w b A n c xs):xs.length=n:=h.1
theorem Sl.cap (h:Sl w b A n c xs):n<=c:=h.2.1
theorem Sl.big (h:Sl w b A n c xs):n<=1099511627776:=h.2.2.1
theorem Sl.lim (h:Sl w b A n c xs):aP xs:=h.2.2.2.1
theorem Sl.at (h:Sl w b A n c xs)(hn:0 < n):∃o,A=some ⟨b,o,none⟩/\∀k,k < n->w.cell? ⟨b,o+k,none⟩=some (.int .u32 (xs.getD k 0:Nat)):=h.2.2.2.2 hn
theorem Sl.lt (h:Sl w b A n c xs)(hn:0 < n):b < w.heap.size:=by
 obtain⟨o,_,a⟩:=h.at hn;exact block_lt_of_cell (a 0 hn)
theorem Sl.keep (h:Sl w b A n c xs)(hk:0 < n->w'.heap[b]?=w.heap[b]?):Sl w' b A n c xs:=
 ⟨h.1,h.2.1,h.2.2.1,h.2.2.2.1,fun hn=>by
  obtain⟨o,e,a⟩:=h.at hn
  exact⟨o,e,fun k hk'=>(World.cell?_of_block (w:=w) (hk hn)).trans (a k hk')⟩⟩
theorem Sl.below (h:Sl w b A n c xs)(hb:Below w.heap.size w w'):Sl w' b A n c xs:=h.keep fun hn=>hb.block b (h.lt hn)
theorem Sl.grown (h:Sl w b A n c xs){row:Option Nat}(hg:w.grownBy w' row)(hne:0 < n->some b≠row):Sl w' b A n c xs:=h.keep fun hn=>hg.block b (h.lt hn) (hne hn)
theorem Sl.drew (h:Sl w b A n c xs):Sl w.drew b A n c xs:=h
theorem Sl.drewN (h:Sl w b A n c xs)(k:Nat):Sl (w.drewN k) b A n c xs:=h
theorem Sl.nil:Sl w b none 0 0 []:=⟨rfl,Nat.le_refl _,by decide,aP.nil,fun h=>absurd h (by decide)⟩
theorem Sl.none (hc:n<=c)(hn:n=0):Sl w b A n c []:=by subst hn;exact⟨rfl,hc,by decide,aP.nil,fun h=>absurd h (by decide)⟩
theorem Sl.take (h:Sl w b A n c xs){k:Nat}(hk:k<=n):Sl w b A k c (xs.take k):=
 ⟨by rw[List.length_take,h.len,Nat.min_eq_left hk],Nat.le_trans hk h.cap,Nat.le_trans hk h.big,h.lim.take k,fun hn=>by
  obtain⟨o,e,a⟩:=h.at (by omega)
  refine⟨o,e,fun j hj=>?_⟩
  rw[a j (by omega),nO hj]⟩
theorem dk.lt (h:dk w g l):g < w.heap.size:=by
 rcases Nat.lt_or_ge g w.heap.size with hlt | hge
 ·exact hlt
 ·unfold dk at h;rw[Array.getElem?_eq_none hge]at h;cases h
theorem dk.keep (h:dk w g l)(hk:w'.heap[g]?=w.heap[g]?):dk w' g l:=hk.trans h
theorem dk.below{B:Nat}(h:dk w g l)(hb:Below B w w')(hB:g < B):dk w' g l:=h.keep (hb.block g hB)
theorem dk.grown (h:dk w g l){row:Option Nat}(hg:w.grownBy w' row)(hne:some g≠row):dk w' g l:=h.keep (hg.block g h.lt hne)
theorem dk.cell (h:dk w g l){i:Nat}(hi:i < l.length):w.cell? ⟨g,i,none⟩=some (.int .u32 (l.getD i 0:Nat)):=by
 rw[cell_of_row w g i _ _ (0,0) h]
 simp[jK,u32,hi]
theorem dk.frozen (h:dk w g l)(i:Nat):w.frozen? ⟨g,i,none⟩=false:=by
 unfold dk at h
 simp[World.frozen?,h]
theorem dk.set (h:dk w g l)(i:Nat)(x:Nat):dk (w.setCell ⟨g,i,none⟩ (.int .u32 (x:Int))) g (l.set i x):=by
 unfold dk at h|-
 simp[World.setCell,Array.getElem?_modify,h,List.map_set,u32,jK]
theorem dk.far (h:dk w g l){p:Addr}(hp:g≠p.block)(u:Value):dk (w.setCell p u) g l:=(Below.heap_setCell w p u g hp).trans h
theorem dk.alloc (h:dk w g l)(o:Obj):dk (w.alloc o) g l:=(Below.heap_alloc w o g h.lt).trans h
theorem dk.new (w:World)(l:List Nat):dk (w.alloc (.cells (jK l) 92)) w.heap.size l:=heap_alloc_new w _
theorem dk.sl (h:dk w g l)(hl:aP l){o n c:Nat}(hn:o+n<=l.length)(hc:n<=c)(hb:l.length<=1099511627776):Sl w g (some ⟨g,o,none⟩) n c ((l.drop o).take n):=
 ⟨by simp;omega,hc,by omega,(hl.drop o).take n,fun _=>⟨o,rfl,fun k hk=>by rw[h.cell (by omega),nO hk,gG]⟩⟩
theorem dk.all (h:dk w g l)(hl:aP l)(hb:l.length<=1099511627776){c:Nat}(hc:l.length<=c):Sl w g (some ⟨g,0,none⟩) l.length c l:=by
 have:=h.sl hl (o:=0) (n:=l.length) (c:=c) (by omega) hc hb
 simpa using this
theorem Ea (n:Nat):madeCells (Value.int .u32 0).cells n=jK (List.replicate n 0):=by
 apply Array.ext
 ·simp[madeCells,jK]
 ·intro i h1 h2
  simp[madeCells,jK,u32,Value.cells,Nat.mod_one]
theorem aH{B:Nat}{a w:World}(h:Below B a w)(n:Nat):Below B a (w.drewN n):=⟨h.os,h.tape,h.output,h.size,h.block⟩
theorem dz (w:World)(row:Option Nat):w.grownBy w row:=⟨rfl,rfl,rfl,Nat.le_refl _,fun _ _ _=>rfl⟩
theorem iO{a b c:World}{row:Option Nat}(h:a.grownBy b row)(k:b.grownBy c row):a.grownBy c row:=
 ⟨k.os.trans h.os,k.tape.trans h.tape,k.output.trans h.output,Nat.le_trans h.size k.size,fun i hi hn=>(k.block i (Nat.lt_of_lt_of_le hi h.size) hn).trans (h.block i hi hn)⟩
theorem rM{a w:World}{row:Option Nat}(h:a.grownBy w row):a.grownBy w.drew row:=⟨h.os,h.tape,h.output,h.size,h.block⟩
theorem kR{a w:World}{row:Option Nat}(h:a.grownBy w row)(n:Nat):a.grownBy (w.drewN n) row:=⟨h.os,h.tape,h.output,h.size,h.block⟩
theorem fI{a w:World}{g i:Nat}(h:a.grownBy w (some g))(u:Value):a.grownBy (w.setCell ⟨g,i,none⟩ u) (some g):=
 ⟨h.os,h.tape,h.output,by simpa [World.setCell]using h.size,fun k hk hne=>(Below.heap_setCell w _ u k (by rintro rfl;exact hne rfl)).trans (h.block k hk hne)⟩
theorem eG{B g:Nat}{a w:World}(h:a.grownBy w (some g))(hg:B<=g)(hB:B<=a.heap.size):Below B a w:=⟨h.os,h.tape,h.output,h.size,fun i hi=>h.block i (by omega) (by simp;omega)⟩
theorem oZ (w:World)(g:Nat)(cs:Array Value):w.grownBy (w.setRow g cs) (some g):=
 ⟨rfl,rfl,rfl,by simp[World.setRow],fun k _ hne=>setRow_other w g k cs (fun e=>hne (by rw[e]))⟩
theorem gC{P:Program}{w:World}{ops:Array Oper}{rest:List Oper}{o:Oper}{a:Act}{Q:Exit->Act->World->Prop}(hgd:o.guard=none)(d s:Operand)(t:TypeId)
  (ho:o.op= .call {callee:= .builtin .copy,args:= #[d,s],argTypes:= #[t,t]}) (elem:TypeId) (hu:P.underlying t=some (.slice elem)) (hsz:(P.info? elem).map (·.size)=some 1)
  (g n c b:Nat) (A:Option Addr) (m c':Nat) (zs xs:List Nat) (hd:a.eval d= .slice (some ⟨g,0,none⟩) n c) (hs:a.eval s= .slice A m c')
  (hg:dk w g zs) (hx:Sl w b A m c' xs) (hz:zs.length=n) (hm:m<=n)
  (h:∀w',dk w' g (xs ++zs.drop m)->w.grownBy w' (some g)->wpList P ops Q rest (a.put o.dst (goInt m)) w'):wpList P ops Q (o::rest) a w:=by
 have hl:=hx.len
 by_cases i:m=0
 ·obtain rfl:xs=[]:=List.eq_nil_of_length_eq_zero (by omega)
  refine wpList_copy_nothing hgd d s t t ho elem hu hsz _ _ n c m c' hd hs (by subst i;simp) ?_
  have:=h w (by subst i;simpa using hg) (dz _ _)
  subst i;exact this
 ·obtain⟨l,rfl,p⟩:=hx.at (by omega)
  have e:(xs.map u32).length=m:=by simpa using hl
  refine wpList_copy_own hgd d s t t ho elem hu hsz g 0 n c ⟨b,l,none⟩ m c' hd hs (jK zs) _ hg (xs.map u32) (by rw[e];exact(Nat.min_eq_left hm).symm) ?_ ?_ ?_ ?_
  ·intro j v f
   have k:j < m:=by
    have:=(List.getElem?_eq_some_iff.1 f).1
    omega
   rw[Addr.add_mid,p j k];rw[List.getElem?_map]at f;rw[List.getD_eq_getElem?_getD]
   rcases hq:xs[j]? with _ | y
   ·rw[hq]at f;simp at f
   ·rw[hq]at f
    simp at f|-
    exact f
  ·simp[jK];omega
  ·intro v q
   obtain⟨y,_,rfl⟩:=List.mem_map.1 q
   rfl
  ·rw[e];refine h _ ?_ (oZ _ _ _)
   have:=setRow_heap w g (jK zs) ((jK zs).toList.take 0 ++(xs.map u32 ++(jK zs).toList.drop (0+m))).toArray _ _ hg
   unfold dk
   rw[this]
   simp[jK]
theorem mC{P:Program}{f:FuncId}{args:Array Value}{w:World}{a n:Nat}{v:Value}
  (h:Calls P f args (w.drewN (a+n)) fun e w'=>e= .returned v/\w.drewN (a+n)=w'):
  Calls P f args (w.drewN (a+n)) fun e w''=>e= .returned v/\∃m,w''=w.drewN (a+m):=
 h.mono fun _ _ ⟨he,hm⟩=>⟨he,n,hm.symm⟩
theorem sG{P:Program}{f:FuncId}{args:Array Value}{w:World}{n:Nat}{v:Value}
  (h:Calls P f args (w.drewN n) fun e w'=>e= .returned v/\w.drewN n=w'):Calls P f args (w.drewN n) fun e w''=>e= .returned v/\∃m,w''=w.drewN m:=
 h.mono fun _ _ ⟨he,hm⟩=>⟨he,n,hm.symm⟩
end
abbrev Sl.b:= @Sl.below
