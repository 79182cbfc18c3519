/-
  Contracts and words that the statement's proof rests on: Vals, Wn, Bo, Vall, Row.
-/
import Derived.Deep.RegionWith
import Derived.Test.YtpnmphofengoeaaDoorYHae
namespace Go.Proofs.YtpnmphofengoeaaDoor
open Go.RowKit
set_option linter.unusedVariables false

def Rd (w : World) (A : Option Addr) (n c v : Nat) : Prop := ∃ b xs, Sl w b A n c xs ∧ val xs = v
def Nm (w : World) (A : Option Addr) (n c v : Nat) : Prop := ∃ b, Sl w b A n c (limbs v)

theorem Rd.below {w w' : World} {A : Option Addr} {n c v : Nat} (h : Rd w A n c v) (hb : Below w.heap.size w w') : Rd w' A n c v := by
  obtain ⟨b, xs, h, e⟩ := h; exact ⟨b, xs, h.below hb, e⟩
theorem Nm.below {w w' : World} {A : Option Addr} {n c v : Nat} (h : Nm w A n c v) (hb : Below w.heap.size w w') : Nm w' A n c v := by
  obtain ⟨b, h⟩ := h; exact ⟨b, h.below hb⟩
theorem Nm.len {w : World} {A : Option Addr} {n c v : Nat} (h : Nm w A n c v) : (limbs v).length = n := by
  obtain ⟨b, h⟩ := h; exact h.len
theorem Rd.big {w : World} {A : Option Addr} {n c v : Nat} (h : Rd w A n c v) : n ≤ 1099511627776 := by
  obtain ⟨b, xs, h, rfl⟩ := h; exact h.big
def P1 (w : World) (K v : Nat) (e : Ending) (w' : World) : Prop := ∃ A n c, e = .returned (.slice A n c) ∧ Nm w' A n c v ∧ n ≤ K ∧ Below w.heap.size w w'
def PI (w : World) (z : Int) (e : Ending) (w' : World) : Prop := e = .returned (.int .i64 z) ∧ Below w.heap.size w w'

section
variable {w : World} {A1 A2 : Option Addr} {n m c1 c2 a b : Nat}

end

end Go.Proofs.YtpnmphofengoeaaDoor

namespace Go.Proofs.YtpnmphofengoeaaDoor
open Go.RowKit
set_option linter.unusedVariables false

def sg (s : Bool) (a : Nat) : Int := if s then -(a : Int) else a
def Wr (w : World) (s : Bool) (A : Option Addr) (n c : Nat) (z : Int) : Prop := ∃ a, Rd w A n c a ∧ sg s a = z
def Wn (w : World) (s : Bool) (A : Option Addr) (n c : Nat) (z : Int) : Prop := Nm w A n c z.natAbs ∧ s = decide (z < 0)

theorem Wr.below {w w' : World} {s : Bool} {A : Option Addr} {n c : Nat} {z : Int} (h : Wr w s A n c z) (hb : Below w.heap.size w w') : Wr w' s A n c z := by
  obtain ⟨a, h, e⟩ := h; exact ⟨a, h.below hb, e⟩
theorem Wn.below {w w' : World} {s : Bool} {A : Option Addr} {n c : Nat} {z : Int} (h : Wn w s A n c z) (hb : Below w.heap.size w w') : Wn w' s A n c z := ⟨h.1.below hb, h.2⟩
def W1 (w : World) (K : Nat) (z : Int) (e : Ending) (w' : World) : Prop := ∃ s A n c, e = .returned (.agg #[.bool s, .slice A n c]) ∧ Wn w' s A n c z ∧ n ≤ K ∧ Below w.heap.size w w'
def PB (w : World) (t : Bool) (e : Ending) (w' : World) : Prop := e = .returned (.bool t) ∧ Below w.heap.size w w'
theorem bel1 (w : World) (a : Obj) : Below w.heap.size w (w.alloc a) := alloc_below _ _
theorem bel2 (w : World) (a b : Obj) : Below w.heap.size w ((w.alloc a).alloc b) := (bel1 w a).alloc (by simp) _
theorem bel3 (w : World) (a b c : Obj) : Below w.heap.size w (((w.alloc a).alloc b).alloc c) := (bel2 w a b).alloc (by simp; omega) _
theorem bel4 (w : World) (a b c d : Obj) : Below w.heap.size w ((((w.alloc a).alloc b).alloc c).alloc d) := (bel3 w a b c).alloc (by simp; omega) _
theorem bt {w w1 w2 : World} (h : Below w.heap.size w w1) (k : Below w1.heap.size w1 w2) : Below w.heap.size w w2 := h.trans (k.mono h.size)
theorem st2 {B : Nat} {a w : World} (h : Below B a w) {b o1 o2 : Nat} (hp : B ≤ b) (u v : Value) : Below B a ((w.setCell ⟨b, o1, none⟩ u).setCell ⟨b, o2, none⟩ v) := (h.setCell (p := ⟨b, o1, none⟩) hp u).setCell (p := ⟨b, o2, none⟩) hp v

section
variable {w w' : World} {g : Nat} {s : Bool} {A : Option Addr} {n c : Nat}
end
end Go.Proofs.YtpnmphofengoeaaDoor

namespace Go.Proofs.YtpnmphofengoeaaDoor
open Go.RowKit
set_option linter.unusedVariables false

def Bo (w : World) (g : Nat) (cs : Array Value) (T : TypeId) : Prop := w.heap[g]? = some (.cells cs T (0, 0))
def no32 (v : Value) : Bool := match v with
  | .int .u32 _ => false
  | _ => true
section
variable {w w' : World} {g : Nat} {cs : Array Value} {T : TypeId}
theorem Bo.lt (h : Bo w g cs T) : g < w.heap.size := by
  rcases Nat.lt_or_ge g w.heap.size with hlt | hge
  · exact hlt
  · unfold Bo at h; rw [Array.getElem?_eq_none hge] at h; cases h
theorem Bo.keep (h : Bo w g cs T) (hk : w'.heap[g]? = w.heap[g]?) : Bo w' g cs T := hk.trans h
theorem Bo.below (h : Bo w g cs T) (hb : Below w.heap.size w w') : Bo w' g cs T := h.keep (hb.block g h.lt)
theorem Bo.new (w : World) (cs : Array Value) (T : TypeId) : Bo (w.alloc (.cells cs T)) w.heap.size cs T := heap_alloc_new w _
theorem Bo.newAt (w : World) {g : Nat} (hg : w.heap.size = g) (cs : Array Value) (T : TypeId) : Bo (w.alloc (.cells cs T)) g cs T := hg ▸ heap_alloc_new w _
theorem Bo.cell (h : Bo w g cs T) (i : Nat) : w.cell? ⟨g, i, none⟩ = cs[i]? := by rw [cell_of_row w g i _ _ (0, 0) h]
theorem Bo.frozen (h : Bo w g cs T) (i : Nat) : w.frozen? ⟨g, i, none⟩ = false := by
  unfold Bo at h
  simp [World.frozen?, h]
theorem Bo.set (h : Bo w g cs T) (i : Nat) (v : Value) : Bo (w.setCell ⟨g, i, none⟩ v) g (cs.setIfInBounds i v) T := by
  unfold Bo at h ⊢
  simp [World.setCell, Array.getElem?_modify, h]
theorem Bo.no (h : Bo w g cs T) (hn : cs.all no32 = true) {o : Nat} {x : Int} (hc : w.cell? ⟨g, o, none⟩ = some (.int .u32 x)) : False := by
  rw [h.cell] at hc; rw [Array.all_eq_true] at hn; obtain ⟨hlt, he⟩ := Array.getElem?_eq_some_iff.1 hc
  have := hn o hlt
  rw [he] at this
  cases this
theorem below_store {B : Nat} {a : World} (h : Below B a w) {b : Nat} (hp : B ≤ b) (i : Nat) (u : Value) : Below B a (w.setCell ⟨b, i, none⟩ u) := h.setCell (p := ⟨b, i, none⟩) hp u
end
theorem bel5 (w : World) (a b c d e : Obj) : Below w.heap.size w (((((w.alloc a).alloc b).alloc c).alloc d).alloc e) := (bel4 w a b c d).alloc (by simp; omega) _
end Go.Proofs.YtpnmphofengoeaaDoor

namespace Go.Proofs.YtpnmphofengoeaaDoor
open Go.RowKit
set_option linter.unusedVariables false

section
variable {w : World} {A1 A2 : Option Addr} {n m c1 c2 a b : Nat}
end
theorem cmpI_bd (a b : Int) : -1 ≤ cmpI a b ∧ cmpI a b ≤ 1 := by unfold cmpI; split <;> (try split) <;> omega
theorem blen_eq_zero {a : Nat} : blen a = 0 ↔ a = 0 := by
  constructor
  · intro h
    have := blen_lt a
    rw [h] at this
    simpa using this
  · rintro rfl; rfl
end Go.Proofs.YtpnmphofengoeaaDoor

namespace Go.Proofs.YtpnmphofengoeaaDoor
open Go.RowKit
set_option linter.unusedVariables false

def RowIn (w : World) (a : Option Addr) (len cap : Nat) (zs : List Int) : Prop :=
  (a = none ∧ len = 0 ∧ cap = 0 ∧ zs = []) ∨
  ∃ x, a = some x ∧ len ≤ cap ∧ cap ≤ maxLen ∧ zs.length = cap ∧ (∀ i, i < zs.length → w.cell? (x.add i) = some (.int .u32 (zs.getD i 0))) ∧ ∀ n ∈ zs, (Lit.int .u32 n).wf = true

theorem RowIn.len {w : World} {a : Option Addr} {len cap : Nat} {zs : List Int} (h : RowIn w a len cap zs) : len ≤ 9223372036854775807 := by
  rcases h with ⟨_, rfl, _, _⟩ | ⟨x, _, h1, h2, _⟩
  · omega
  · unfold maxLen at h2; omega

end Go.Proofs.YtpnmphofengoeaaDoor
