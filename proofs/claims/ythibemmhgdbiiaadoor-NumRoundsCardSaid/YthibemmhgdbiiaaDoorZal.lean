/-
  Contracts and words that the statements' proofs rest on, several texts in one: Wh, Lw.
-/
import Derived.IntWalk
import Derived.Deep.RegionHeld3
import Derived.Test.YthibemmhgdbiiaaDoorZag
import Derived.Test.YthibemmhgdbiiaaDoorZai
/-
  What whole.Div does, for numbers of at most 2^30 limbs.
-/
namespace Go.Proofs.YthibemmhgdbiiaaDoor
open Go.RowKit
set_option linter.unusedVariables false

theorem div_un {x y q r : Int} (hy : y ≠ 0) (h : r + y * q = x) (hp : 0 < y → 0 ≤ r ∧ r < y) (hn : y < 0 → y < r ∧ r ≤ 0) : q = x.fdiv y ∧ r = x.fmod y := by
  rcases Int.lt_or_gt_of_ne hy with h0 | h0
  · have := (Int.fdiv_fmod_unique' (q := q) (r := r) h0).2 ⟨h, hn h0⟩
    exact ⟨this.1.symm, this.2.symm⟩
  · have := (Int.fdiv_fmod_unique (q := q) (r := r) h0).2 ⟨h, hp h0⟩
    exact ⟨this.1.symm, this.2.symm⟩
theorem div_parts {a b : Nat} (hb : b ≠ 0) : (b : Int) * ((a / b : Nat) : Int) + ((a % b : Nat) : Int) = a ∧ a % b < b := by
  refine ⟨?_, Nat.mod_lt _ (by omega)⟩
  have := Nat.div_add_mod a b
  exact_mod_cast this
theorem div_same (s : Bool) {a b : Nat} (hb : b ≠ 0) : sg false (a / b) = (sg s a).fdiv (sg s b) ∧ sg s (a % b) = (sg s a).fmod (sg s b) := by
  obtain ⟨e, hl⟩ := div_parts (a := a) hb
  revert e hl
  generalize a / b = D
  generalize a % b = M
  intro e hl
  apply div_un <;> cases s <;> simp [sg, Int.neg_mul] <;> omega
theorem div_zero' (s t : Bool) (hst : (s == t) = false) {a b : Nat} (hb : b ≠ 0) (h2 : a % b = 0) : sg true (a / b) = (sg s a).fdiv (sg t b) ∧ sg t 0 = (sg s a).fmod (sg t b) := by
  obtain ⟨e, hl⟩ := div_parts (a := a) hb
  rw [h2] at e hl
  revert e hl
  generalize a / b = D
  intro e hl
  apply div_un <;> revert hst <;> cases s <;> cases t <;> simp [sg, Int.neg_mul, Int.mul_neg] <;> omega
theorem div_left (s t : Bool) (hst : (s == t) = false) {a b : Nat} (hb : b ≠ 0) (h2 : a % b ≠ 0) : sg true (a / b + 1) = (sg s a).fdiv (sg t b) ∧ sg t (b - a % b) = (sg s a).fmod (sg t b) := by
  obtain ⟨e, hl⟩ := div_parts (a := a) hb
  revert e hl h2
  generalize a / b = D
  generalize a % b = M
  intro e h2 hl
  have e1 : (b : Int) * ((D : Int) + 1) = b * D + b := by rw [Int.mul_add, Int.mul_one]
  have e2 : ((b - M : Nat) : Int) = b - M := by omega
  apply div_un <;> revert hst <;> cases s <;> cases t <;> simp [sg, e2, Int.neg_mul, Int.mul_neg, Int.mul_add] <;> omega

/-- A quotient and what is left, and true. -/
def W3 (w : World) (K : Nat) (q r : Int) (e : Ending) (w' : World) : Prop := ∃ s1 A1 n1 c1 s2 A2 n2 c2, e = .returned (.tuple #[.agg #[.bool s1, .slice A1 n1 c1], .agg #[.bool s2, .slice A2 n2 c2], .bool true]) ∧ Wn w' s1 A1 n1 c1 q ∧ Wn w' s2 A2 n2 c2 r ∧ n1 ≤ K ∧ n2 ≤ K ∧ Below w.heap.size w w'

end Go.Proofs.YthibemmhgdbiiaaDoor

/-
  What every statement of layer 2 begins with: the chapter's examples, and the test of lengths.
-/
namespace Go.Proofs.YthibemmhgdbiiaaDoor
open Go.RowKit
set_option linter.unusedVariables false

theorem Wl.lit3 {W : World} {g K : Nat} {s1 s2 s3 : Bool} {A1 A2 A3 : Option Addr} {n1 c1 n2 c2 n3 c3 : Nat} {z1 z2 z3 : Int} (hg : W.heap.size = g)
    (h1 : Wr W s1 A1 n1 c1 z1) (h2 : Wr W s2 A2 n2 c2 z2) (h3 : Wr W s3 A3 n3 c3 z3) (k1 : n1 ≤ K) (k2 : n2 ≤ K) (k3 : n3 ≤ K) :
    Wl (W.alloc (.cells #[.bool s1, .slice A1 n1 c1, .bool s2, .slice A2 n2 c2, .bool s3, .slice A3 n3 c3] 24)) (some ⟨g, 0, none⟩) 3 3 K [z1, z2, z3] := by
  subst hg
  have hh := heap_alloc_new W (.cells #[.bool s1, .slice A1 n1 c1, .bool s2, .slice A2 n2 c2, .bool s3, .slice A3 n3 c3] 24)
  refine ⟨rfl, Nat.le_refl _, by decide, fun _ => ⟨_, 0, rfl, fun k hk => ?_⟩⟩
  rcases (by omega : k = 0 ∨ k = 1 ∨ k = 2) with rfl | rfl | rfl
  · exact ⟨s1, A1, n1, c1, by rw [cell_of_row _ _ _ _ _ _ hh]; rfl, by rw [cell_of_row _ _ _ _ _ _ hh]; rfl, h1.below (bel1 _ _), k1⟩
  · exact ⟨s2, A2, n2, c2, by rw [cell_of_row _ _ _ _ _ _ hh]; rfl, by rw [cell_of_row _ _ _ _ _ _ hh]; rfl, h2.below (bel1 _ _), k2⟩
  · exact ⟨s3, A3, n3, c3, by rw [cell_of_row _ _ _ _ _ _ hh]; rfl, by rw [cell_of_row _ _ _ _ _ _ hh]; rfl, h3.below (bel1 _ _), k3⟩
theorem Wl.lit2 {W : World} {g K : Nat} {s1 s2 : Bool} {A1 A2 : Option Addr} {n1 c1 n2 c2 : Nat} {z1 z2 : Int} (hg : W.heap.size = g)
    (h1 : Wr W s1 A1 n1 c1 z1) (h2 : Wr W s2 A2 n2 c2 z2) (k1 : n1 ≤ K) (k2 : n2 ≤ K) :
    Wl (W.alloc (.cells #[.bool s1, .slice A1 n1 c1, .bool s2, .slice A2 n2 c2] 24)) (some ⟨g, 0, none⟩) 2 2 K [z1, z2] := by
  subst hg
  have hh := heap_alloc_new W (.cells #[.bool s1, .slice A1 n1 c1, .bool s2, .slice A2 n2 c2] 24)
  refine ⟨rfl, Nat.le_refl _, by decide, fun _ => ⟨_, 0, rfl, fun k hk => ?_⟩⟩
  rcases (by omega : k = 0 ∨ k = 1) with rfl | rfl
  · exact ⟨s1, A1, n1, c1, by rw [cell_of_row _ _ _ _ _ _ hh]; rfl, by rw [cell_of_row _ _ _ _ _ _ hh]; rfl, h1.below (bel1 _ _), k1⟩
  · exact ⟨s2, A2, n2, c2, by rw [cell_of_row _ _ _ _ _ _ hh]; rfl, by rw [cell_of_row _ _ _ _ _ _ hh]; rfl, h2.below (bel1 _ _), k2⟩

theorem Wl.drew {w : World} {A : Option Addr} {n c K : Nat} {zs : List Int} (h : Wl w A n c K zs) : Wl w.drew A n c K zs := h
/-- The two boxes that a function of two whole numbers begins with. -/
theorem box2 (w : World) (s t : Bool) (A B : Option Addr) (n c m d : Nat) {W : World} (hW : W = (w.alloc (.cells #[.bool s, .slice A n c] 24)).alloc (.cells #[.bool t, .slice B m d] 24)) :
    Bx W w.heap.size s A n c ∧ Bx W (w.heap.size + 1) t B m d ∧ Below w.heap.size w W := by
  subst hW
  exact ⟨(Bx.new w s A n c).below (bel1 _ _), Bx.newAt _ (by simp) t B m d, bel2 _ _ _⟩

end Go.Proofs.YthibemmhgdbiiaaDoor
