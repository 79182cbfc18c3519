/-
 Contracts that the proof rests on.
-/
import Derived.Test.YtomikokonmikgaaGreatDoorYBaf
import Derived.Test.YtomikokonmikgaaGreatDoorYBah
namespace Go.Proofs.YtomikokonmikgaaGreatDoor
open Go.RowKit
set_option linter.unusedVariables false
def D1 (w:World)(K:Nat)(N E:Int)(e:Ending)(w':World):Prop:=∃s A n c,e= .returned (.agg #[.bool s,.slice A n c,.int .i64 E])/\Wn w' s A n c N/\n<=K/\Below w.heap.size w w'
theorem Wn.st3{w:World}{g:Nat}{cs:Array Value}{T:TypeId}{t:Bool}{B:Option Addr}{m d:Nat}{z:Int}(h:Wn w t B m d z)(X:Bo w g cs T)(s:Bool)(A:Option Addr)(n c:Nat)(e:Int)(hn:cs.all no32=true):
  Wn (((w.setCell ⟨g,0,none⟩ (.bool s)).setCell ⟨g,1,none⟩ (.slice A n c)).setCell ⟨g,2,none⟩ (.int .i64 e)) t B m d z:=by
 have step:∀(cs:Array Value) (i:Nat) (v:Value),cs.all no32=true->no32 v=true->(cs.setIfInBounds i v).all no32=true:=by
  intro cs i v h1 h2
  rw[Array.all_eq_true]at h1|-
  intro j hj
  rw[Array.getElem_setIfInBounds]
  split
  ·exact h2
  ·exact h1 j (by simpa using hj)
 exact((h.store X hn 0 _).store (X.set 0 _) (step _ _ _ hn rfl) 1 _).store ((X.set 0 _).set 1 _) (step _ _ _ (step _ _ _ hn rfl) rfl) 2 _
theorem st3{B:Nat}{a w:World}(h:Below B a w){b:Nat}(hp:B<=b)(u v t:Value):Below B a (((w.setCell ⟨b,0,none⟩ u).setCell ⟨b,1,none⟩ v).setCell ⟨b,2,none⟩ t):=below_store (below_store (below_store h hp 0 u) hp 1 v) hp 2 t
