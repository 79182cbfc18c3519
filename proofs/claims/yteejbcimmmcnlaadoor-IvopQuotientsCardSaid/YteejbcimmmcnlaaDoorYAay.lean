/-
  Contracts and words that the statement's proof rests on, several texts in one: Cf.
-/
import Derived.Test.YteejbcimmmcnlaaDoorYAax
/-
  What the document's Two, Both, Meet and Hull of intervals do.
-/
namespace Go.Proofs.YteejbcimmmcnlaaDoor
open Go.RowKit
set_option linter.unusedVariables false
set_option linter.unusedSimpArgs false
set_option maxRecDepth 100000

theorem Nl.lit2 {W : World} {g : Nat} {D1 D2 M1 M2 E1 E2 r1 r2 : Int} {s1 s2 : Bool} (hg : W.heap.size = g) (h1 : M1 < 18446744073709551616) (h2 : M2 < 18446744073709551616) (k1 : rk D1 s1 M1 E1 = r1) (k2 : rk D2 s2 M2 E2 = r2) :
    Nl (W.alloc (.cells #[.int .i64 D1, .bool s1, .int .u64 M1, .int .i64 E1, .int .i64 D2, .bool s2, .int .u64 M2, .int .i64 E2] 24)) (some ⟨g, 0, none⟩) 2 2 [r1, r2] := by
  subst hg; have hh := heap_alloc_new W (.cells #[.int .i64 D1, .bool s1, .int .u64 M1, .int .i64 E1, .int .i64 D2, .bool s2, .int .u64 M2, .int .i64 E2] 24)
  refine ⟨rfl, Nat.le_refl _, by decide, fun _ => ⟨_, 0, rfl, fun k hk => ?_⟩⟩
  rcases (by omega : k = 0 ∨ k = 1) with rfl | rfl
  · exact ⟨D1, s1, M1, E1, by rw [cell_of_row _ _ _ _ _ _ hh]; rfl, by rw [cell_of_row _ _ _ _ _ _ hh]; rfl, by rw [cell_of_row _ _ _ _ _ _ hh]; rfl, by rw [cell_of_row _ _ _ _ _ _ hh]; rfl, h1, k1⟩
  · exact ⟨D2, s2, M2, E2, by rw [cell_of_row _ _ _ _ _ _ hh]; rfl, by rw [cell_of_row _ _ _ _ _ _ hh]; rfl, by rw [cell_of_row _ _ _ _ _ _ hh]; rfl, by rw [cell_of_row _ _ _ _ _ _ hh]; rfl, h2, k2⟩
theorem mxp_two {a b : Int} (ha : -19342822337206103650074625 ≤ a) : mxp [a, b] = max a b := by
  have := TP_eq
  show max (max (-TP) a) b = _
  omega
end Go.Proofs.YteejbcimmmcnlaaDoor
