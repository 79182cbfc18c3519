/-
  How many bits a number needs, off its highest limb. Plain arithmetic; no condition.
-/
import Derived.Test.YtbendmhcimadpaaBits
namespace Go.Proofs.Ytbendmhcimadpaa
set_option linter.unusedVariables false

/-- How many bits a number needs, off its highest limb. -/
theorem blen_limbs {n : Nat} (h : n ≠ 0) : blen n = ((limbs n).length - 1) * 32 + blen ((limbs n).getD ((limbs n).length - 1) 0) := by
  have hl : (limbs n).length ≠ 0 := fun e => h (limbs_length_zero.1 e)
  have hs := val_take_succ (xs := limbs n) (k := (limbs n).length - 1) (by omega)
  rw [show (limbs n).length - 1 + 1 = (limbs n).length by omega, List.take_length, val_limbs] at hs
  have ht := val_lt ((lim_limbs n).take ((limbs n).length - 1))
  rw [List.length_take, Nat.min_eq_left (by omega)] at ht
  have hp : 0 < 4294967296 ^ ((limbs n).length - 1) := Nat.pow_pos (by decide)
  have hlast := limbs_last h
  have hd : n / 4294967296 ^ ((limbs n).length - 1) = (limbs n).getD ((limbs n).length - 1) 0 := by
    have : ∀ p q r, p < 4294967296 ^ ((limbs n).length - 1) → r = p + 4294967296 ^ ((limbs n).length - 1) * q → r / 4294967296 ^ ((limbs n).length - 1) = q := by
      intro p q r hpq e
      rw [e, Nat.add_mul_div_left _ _ hp, Nat.div_eq_of_lt hpq, Nat.zero_add]
    exact this _ _ _ ht hs
  have hge : 4294967296 ^ ((limbs n).length - 1) ≤ n := by
    have := Nat.le_mul_of_pos_right (4294967296 ^ ((limbs n).length - 1)) (Nat.pos_of_ne_zero hlast)
    omega
  rw [pow32] at hd hge
  rw [blen_shift n _ hge, hd]
end Go.Proofs.Ytbendmhcimadpaa
