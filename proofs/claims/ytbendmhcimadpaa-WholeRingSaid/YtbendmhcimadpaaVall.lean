/-
  What nat.Len does, said of numbers; and the order of two numbers.
-/
import Derived.Test.YtbendmhcimadpaaVals
import Derived.Test.YtbendmhcimadpaaLen
namespace Go.Proofs.Ytbendmhcimadpaa
open Go.RowKit
set_option linter.unusedVariables false

section
variable {w : World} {A1 A2 : Option Addr} {n m c1 c2 a b : Nat}
theorem vLen (h1 : Rd w A1 n c1 a) : Calls Try.prog 41 #[.slice A1 n c1] w (PI w (blen a : Nat)) := by
  obtain ⟨b1, xs, h1, rfl⟩ := h1
  refine (len_any w b1 A1 n c1 xs h1).mono ?_
  rintro e w' ⟨rfl, rfl⟩
  exact ⟨rfl, Below.refl _ _⟩

theorem vLenE {z : Int} (h1 : Rd w A1 n c1 a) (hz : ((blen a : Nat) : Int) = z) : Calls Try.prog 41 #[.slice A1 n c1] w (PI w z) := hz ▸ vLen h1
end
theorem cmpI_self (a : Nat) : cmpI (a : Int) (a : Int) = 0 := cmpI_eq rfl
theorem cmpI_swap (a b : Nat) : cmpI (a : Int) (b : Int) = -cmpI (b : Int) (a : Int) := by
  rcases Nat.lt_trichotomy a b with h | h | h
  · rw [cmpI_lt (by omega), cmpI_gt (by omega)]
  · subst h; rw [cmpI_self]; rfl
  · rw [cmpI_gt (by omega), cmpI_lt (by omega)]; rfl
theorem cmpI_bd (a b : Int) : -1 ≤ cmpI a b ∧ cmpI a b ≤ 1 := by unfold cmpI; split <;> (try split) <;> omega
theorem blen_eq_zero {a : Nat} : blen a = 0 ↔ a = 0 := by
  constructor
  · intro h
    have := blen_lt a
    rw [h] at this
    simpa using this
  · rintro rfl; rfl
end Go.Proofs.Ytbendmhcimadpaa
