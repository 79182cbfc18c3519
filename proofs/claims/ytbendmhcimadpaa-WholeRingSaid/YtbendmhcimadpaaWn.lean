/-
  Words for whole numbers: a sign and a slice of limbs that read as an integer; what a call answers that answers one. No Go function.
-/
import Derived.Test.YtbendmhcimadpaaVals
namespace Go.Proofs.Ytbendmhcimadpaa
open Go.RowKit
set_option linter.unusedVariables false

/-- The number of a sign and a number. -/
def sg (s : Bool) (a : Nat) : Int := if s then -(a : Int) else a
theorem sg_true (a : Nat) : sg true a = -(a : Int) := rfl
theorem sg_false (a : Nat) : sg false a = a := rfl
theorem sg_natAbs (s : Bool) (a : Nat) : (sg s a).natAbs = a := by cases s <;> simp [sg]
theorem sg_zero (s : Bool) : sg s 0 = 0 := by cases s <;> rfl
theorem sg_lt (s : Bool) (a : Nat) : decide (sg s a < 0) = (s && decide (0 < a)) := by cases s <;> simp [sg] <;> omega

/-- A sign and a slice read as the integer z. -/
def Wr (w : World) (s : Bool) (A : Option Addr) (n c : Nat) (z : Int) : Prop := ∃ a, Rd w A n c a ∧ sg s a = z
/-- A sign and a slice are just the limbs and the sign that the integer z has. -/
def Wn (w : World) (s : Bool) (A : Option Addr) (n c : Nat) (z : Int) : Prop := Nm w A n c z.natAbs ∧ s = decide (z < 0)

theorem Wn.wr {w : World} {s : Bool} {A : Option Addr} {n c : Nat} {z : Int} (h : Wn w s A n c z) : Wr w s A n c z := by
  obtain ⟨h, rfl⟩ := h
  refine ⟨_, h.rd, ?_⟩
  by_cases e : z < 0
  · simp [sg, e]; omega
  · simp [sg, e]; omega
theorem Wr.below {w w' : World} {s : Bool} {A : Option Addr} {n c : Nat} {z : Int} (h : Wr w s A n c z) (hb : Below w.heap.size w w') : Wr w' s A n c z := by
  obtain ⟨a, h, e⟩ := h
  exact ⟨a, h.below hb, e⟩
theorem Wn.below {w w' : World} {s : Bool} {A : Option Addr} {n c : Nat} {z : Int} (h : Wn w s A n c z) (hb : Below w.heap.size w w') : Wn w' s A n c z := ⟨h.1.below hb, h.2⟩
theorem Wr.rd {w : World} {s : Bool} {A : Option Addr} {n c : Nat} {z : Int} (h : Wr w s A n c z) : Rd w A n c z.natAbs := by
  obtain ⟨a, h, rfl⟩ := h
  rw [sg_natAbs]
  exact h
theorem Wr.eq {w : World} {s : Bool} {A : Option Addr} {n c : Nat} {z : Int} (h : Wr w s A n c z) : sg s z.natAbs = z := by
  obtain ⟨a, h, rfl⟩ := h
  rw [sg_natAbs]
theorem Rd.wr {w : World} {A : Option Addr} {n c a : Nat} (s : Bool) (h : Rd w A n c a) : Wr w s A n c (sg s a) := ⟨a, h, rfl⟩
theorem Nm.pos {w : World} {A : Option Addr} {n c v : Nat} (h : Nm w A n c v) : 0 < n ↔ 0 < v := by
  have hl := h.len
  by_cases e : v = 0
  · subst e; rw [limbs_zero] at hl; simp at hl; omega
  · rw [limbs_pos e] at hl; simp at hl; omega
theorem Nm.wn {w : World} {A : Option Addr} {n c a : Nat} (s : Bool) (h : Nm w A n c a) : Wn w (s && decide (0 < n)) A n c (sg s a) := by
  refine ⟨by rw [sg_natAbs]; exact h, ?_⟩
  rw [sg_lt]
  congr 1
  exact decide_eq_decide.2 h.pos
theorem Wn.zero {w : World} : Wn w false none 0 0 0 := ⟨Nm.zero, rfl⟩

/-- The call answers the whole number z, of at most K limbs. -/
def W1 (w : World) (K : Nat) (z : Int) (e : Ending) (w' : World) : Prop := ∃ s A n c, e = .returned (.agg #[.bool s, .slice A n c]) ∧ Wn w' s A n c z ∧ n ≤ K ∧ Below w.heap.size w w'
def PB (w : World) (t : Bool) (e : Ending) (w' : World) : Prop := e = .returned (.bool t) ∧ Below w.heap.size w w'
def PIB (w : World) (z : Int) (t : Bool) (e : Ending) (w' : World) : Prop := e = .returned (.tuple #[.int .i64 z, .bool t]) ∧ Below w.heap.size w w'

theorem ret_bool {a b : Bool} (h : a = b) : Ending.returned (.bool a) = .returned (.bool b) := by rw [h]
/-- What was there reads as it did. -/
theorem bcell {W w1 : World} (hb : Below W.heap.size W w1) : (∀ b o, b < W.heap.size → w1.cell? ⟨b, o, none⟩ = W.cell? ⟨b, o, none⟩) ∧ (∀ b o, b < W.heap.size → w1.frozen? ⟨b, o, none⟩ = W.frozen? ⟨b, o, none⟩) :=
  ⟨fun b o h => hb.cell (p := ⟨b, o, none⟩) h, fun b o h => hb.frozen (p := ⟨b, o, none⟩) h⟩
theorem bel1 (w : World) (a : Obj) : Below w.heap.size w (w.alloc a) := alloc_below _ _
theorem bel2 (w : World) (a b : Obj) : Below w.heap.size w ((w.alloc a).alloc b) := (bel1 w a).alloc (by simp) _
theorem bel3 (w : World) (a b c : Obj) : Below w.heap.size w (((w.alloc a).alloc b).alloc c) := (bel2 w a b).alloc (by simp; omega) _
theorem bel4 (w : World) (a b c d : Obj) : Below w.heap.size w ((((w.alloc a).alloc b).alloc c).alloc d) := (bel3 w a b c).alloc (by simp; omega) _
theorem bt {w w1 w2 : World} (h : Below w.heap.size w w1) (k : Below w1.heap.size w1 w2) : Below w.heap.size w w2 := h.trans (k.mono h.size)
/-- A struct of two cells, stored where nothing was before. -/
theorem st2 {B : Nat} {a w : World} (h : Below B a w) {b o1 o2 : Nat} (hp : B ≤ b) (u v : Value) : Below B a ((w.setCell ⟨b, o1, none⟩ u).setCell ⟨b, o2, none⟩ v) := (h.setCell (p := ⟨b, o1, none⟩) hp u).setCell (p := ⟨b, o2, none⟩) hp v

/-- Block g is just one whole number, its sign and its slice, none frozen. -/
def Bx (w : World) (g : Nat) (s : Bool) (A : Option Addr) (n c : Nat) : Prop := w.heap[g]? = some (.cells #[.bool s, .slice A n c] 24 (0, 0))
section
variable {w w' : World} {g : Nat} {s : Bool} {A : Option Addr} {n c : Nat}
theorem Bx.lt (h : Bx w g s A n c) : g < w.heap.size := by
  rcases Nat.lt_or_ge g w.heap.size with hlt | hge
  · exact hlt
  · unfold Bx at h; rw [Array.getElem?_eq_none hge] at h; cases h
theorem Bx.keep (h : Bx w g s A n c) (hk : w'.heap[g]? = w.heap[g]?) : Bx w' g s A n c := hk.trans h
theorem Bx.below (h : Bx w g s A n c) (hb : Below w.heap.size w w') : Bx w' g s A n c := h.keep (hb.block g h.lt)
theorem Bx.new (w : World) (s : Bool) (A : Option Addr) (n c : Nat) : Bx (w.alloc (.cells #[.bool s, .slice A n c] 24)) w.heap.size s A n c := heap_alloc_new w _
theorem Bx.newAt (w : World) {g : Nat} (hg : w.heap.size = g) (s : Bool) (A : Option Addr) (n c : Nat) : Bx (w.alloc (.cells #[.bool s, .slice A n c] 24)) g s A n c := hg ▸ heap_alloc_new w _
theorem Bx.cell0 (h : Bx w g s A n c) : w.cell? ⟨g, 0, none⟩ = some (.bool s) := by rw [cell_of_row w g 0 _ _ (0, 0) h]; rfl
theorem Bx.cell1 (h : Bx w g s A n c) : w.cell? ⟨g, 1, none⟩ = some (.slice A n c) := by rw [cell_of_row w g 1 _ _ (0, 0) h]; rfl
theorem Bx.frozen (h : Bx w g s A n c) (i : Nat) : w.frozen? ⟨g, i, none⟩ = false := by
  unfold Bx at h
  simp [World.frozen?, h]
theorem Bx.no32 (h : Bx w g s A n c) {o : Nat} {x : Int} (hc : w.cell? ⟨g, o, none⟩ = some (.int .u32 x)) : False := by
  rw [cell_of_row w g o _ _ (0, 0) h] at hc
  match o, hc with
  | 0, hc => simp at hc
  | 1, hc => simp at hc
  | k + 2, hc => simp at hc
theorem Bx.set (h : Bx w g s A n c) (s' : Bool) (A' : Option Addr) (n' c' : Nat) : Bx ((w.setCell ⟨g, 0, none⟩ (.bool s')).setCell ⟨g, 1, none⟩ (.slice A' n' c')) g s' A' n' c' := by
  unfold Bx at h ⊢
  simp [World.setCell, Array.getElem?_modify, h]
theorem heap_st2 (w : World) {g k o1 o2 : Nat} (h : k ≠ g) (u v : Value) : ((w.setCell ⟨g, o1, none⟩ u).setCell ⟨g, o2, none⟩ v).heap[k]? = w.heap[k]? := by
  rw [Below.heap_setCell _ _ _ _ h, Below.heap_setCell _ _ _ _ h]
theorem Bx.far (h : Bx w g s A n c) {k : Nat} (hk : g ≠ k) (u v : Value) : Bx ((w.setCell ⟨k, 0, none⟩ u).setCell ⟨k, 1, none⟩ v) g s A n c := h.keep (heap_st2 w hk u v)
theorem sl_st {b : Nat} {B : Option Addr} {m d : Nat} {xs : List Nat} (h : Sl w b B m d xs) (X : Bx w g s A n c) (u v : Value) : Sl ((w.setCell ⟨g, 0, none⟩ u).setCell ⟨g, 1, none⟩ v) b B m d xs :=
  h.keep fun hm => heap_st2 w (fun e => by
    obtain ⟨o, _, hc⟩ := h.at hm
    have := hc 0 hm
    rw [e] at this
    exact X.no32 this) u v
theorem Nm.st {B : Option Addr} {m d a : Nat} (h : Nm w B m d a) (X : Bx w g s A n c) (u v : Value) : Nm ((w.setCell ⟨g, 0, none⟩ u).setCell ⟨g, 1, none⟩ v) B m d a := by
  obtain ⟨b, h⟩ := h
  exact ⟨b, sl_st h X u v⟩
theorem Rd.st {B : Option Addr} {m d a : Nat} (h : Rd w B m d a) (X : Bx w g s A n c) (u v : Value) : Rd ((w.setCell ⟨g, 0, none⟩ u).setCell ⟨g, 1, none⟩ v) B m d a := by
  obtain ⟨b, xs, h, e⟩ := h
  exact ⟨b, xs, sl_st h X u v, e⟩
theorem Wn.st {t : Bool} {B : Option Addr} {m d : Nat} {z : Int} (h : Wn w t B m d z) (X : Bx w g s A n c) (u v : Value) : Wn ((w.setCell ⟨g, 0, none⟩ u).setCell ⟨g, 1, none⟩ v) t B m d z := ⟨h.1.st X u v, h.2⟩
theorem Wr.st {t : Bool} {B : Option Addr} {m d : Nat} {z : Int} (h : Wr w t B m d z) (X : Bx w g s A n c) (u v : Value) : Wr ((w.setCell ⟨g, 0, none⟩ u).setCell ⟨g, 1, none⟩ v) t B m d z := by
  obtain ⟨a, h, e⟩ := h
  exact ⟨a, h.st X u v, e⟩
theorem Bx.drew (h : Bx w g s A n c) : Bx w.drew g s A n c := h
theorem Nm.drew {a : Nat} (h : Nm w A n c a) : Nm w.drew A n c a := h
theorem Rd.drew {a : Nat} (h : Rd w A n c a) : Rd w.drew A n c a := h
theorem Wn.drew {z : Int} (h : Wn w s A n c z) : Wn w.drew s A n c z := h
theorem Wr.drew {z : Int} (h : Wr w s A n c z) : Wr w.drew s A n c z := h
end
end Go.Proofs.Ytbendmhcimadpaa
