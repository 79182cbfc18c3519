/-
  Contracts and words that the statement's proof rests on, several texts in one: Pp, Pq.
-/
import Derived.Lib.Atoi
import Derived.Lib.ItoaNum
import Derived.Lib.Strings
import Derived.Lib.TrimByte
/-
  Texts of numbers, as lists of bytes: digits, what a text tells, a number's text. No Go function.
-/
namespace Go.Proofs.YtpmakljahhhnfaaGreatDoor
set_option linter.unusedVariables false
set_option linter.unusedSimpArgs false

/-! ### Tens -/

/-- How many factors ten. -/
def v10 (n : Nat) : Nat := if h : n = 0 ∨ n % 10 ≠ 0 then 0 else v10 (n / 10) + 1
termination_by n
decreasing_by omega
/-- A number without its tens. -/
def u10 (n : Nat) : Nat := n / 10 ^ v10 n
theorem v10_no {n : Nat} (h : n = 0 ∨ n % 10 ≠ 0) : v10 n = 0 := by rw [v10, dif_pos h]
theorem v10_ten {n : Nat} (h : n ≠ 0) : v10 (n * 10) = v10 n + 1 := by
  rw [v10, dif_neg (by omega), Nat.mul_div_cancel _ (by decide)]
theorem u10_no {n : Nat} (h : n = 0 ∨ n % 10 ≠ 0) : u10 n = n := by unfold u10; rw [v10_no h]; simp
theorem u10_ten {n : Nat} (h : n ≠ 0) : u10 (n * 10) = u10 n := by
  unfold u10
  rw [v10_ten h, Nat.pow_succ, Nat.mul_comm (10 ^ v10 n), ← Nat.div_div_eq_div_mul, Nat.mul_div_cancel _ (by decide)]
theorem v10_of {m : Nat} (h : m % 10 ≠ 0) : ∀ k, v10 (m * 10 ^ k) = k
  | 0 => by simpa using v10_no (.inr h)
  | k + 1 => by
    have hm : m * 10 ^ k ≠ 0 := Nat.mul_ne_zero (by omega) (by simp)
    rw [Nat.pow_succ, ← Nat.mul_assoc, v10_ten hm, v10_of h k]
theorem u10_of {m : Nat} (h : m % 10 ≠ 0) (k : Nat) : u10 (m * 10 ^ k) = m := by
  unfold u10
  rw [v10_of h, Nat.mul_div_cancel _ (Nat.pow_pos (by decide))]
theorem u10_spec (n : Nat) (h : n ≠ 0) : n = u10 n * 10 ^ v10 n ∧ u10 n % 10 ≠ 0 := by
  induction n using Nat.strongRecOn with
  | _ n ih =>
    by_cases e : n % 10 = 0
    · have h1 : n / 10 ≠ 0 := by omega
      obtain ⟨a, b⟩ := ih (n / 10) (by omega) h1
      have e10 : n = n / 10 * 10 := by omega
      rw [e10, u10_ten h1, v10_ten h1]
      refine ⟨?_, b⟩
      rw [Nat.pow_succ, ← Nat.mul_assoc, ← a]
    · rw [u10_no (.inr e), v10_no (.inr e)]
      simp [e]
theorem v10_lt (n : Nat) (h : n ≠ 0) (K : Nat) (hK : n < 10 ^ K) : v10 n < K := by
  obtain ⟨a, b⟩ := u10_spec n h
  have h1 : 10 ^ v10 n ≤ n := by
    have h0 : 1 ≤ u10 n := by omega
    have h2 : 1 * 10 ^ v10 n ≤ u10 n * 10 ^ v10 n := Nat.mul_le_mul_right _ h0
    omega
  exact (Nat.pow_lt_pow_iff_right (by decide : 1 < 10)).1 (Nat.lt_of_le_of_lt h1 hK)

/-- A sign's number. -/
def zs (s : Bool) (a : Nat) : Int := if s then -(a : Int) else a
/-- A number times a power of ten, made. -/
def mkd (z t : Int) : Option (Int × Int) :=
  if z = 0 then some (0, 0)
  else if u10 z.natAbs < 10 ^ 40 ∧ -400 ≤ t + v10 z.natAbs ∧ t + v10 z.natAbs ≤ 400 then some (zs (decide (z < 0)) (u10 z.natAbs), t + v10 z.natAbs) else none
theorem zs_zero (s : Bool) (a : Nat) : zs s a = 0 ↔ a = 0 := by cases s <;> simp [zs]
theorem dec_ne (u : Nat) : Lib.decDigits u ≠ [] := by
  intro e
  have h1 := Lib.decDigits_length u
  have h2 := Lib.nDigits_pos u
  rw [e] at h1
  simp at h1
  omega
theorem nDig_le {u k : Nat} (h : u < 10 ^ (k + 1)) : Lib.nDigits u ≤ k + 1 := by
  induction k generalizing u with
  | zero => rw [Lib.nDigits_small (by simpa using h)]; exact Nat.le_refl _
  | succ k ih =>
    by_cases h10 : u < 10
    · rw [Lib.nDigits_small h10]; omega
    · rw [Lib.nDigits_big h10]
      have := ih (u := u / 10) (by rw [Nat.pow_succ] at h; omega)
      omega
end Go.Proofs.YtpmakljahhhnfaaGreatDoor

/-
  Digits with noughts ahead. No Go function.
-/
namespace Go.Proofs.YtpmakljahhhnfaaGreatDoor
set_option linter.unusedVariables false
set_option linter.unusedSimpArgs false

/-- A number's digits; none of nought. -/
def dgs (m : Nat) : List UInt8 := if m = 0 then [] else Lib.decDigits m
theorem dgs_step {m : Nat} (h : m ≠ 0) : dgs m = dgs (m / 10) ++ [UInt8.ofNat (48 + m % 10)] := by
  unfold dgs
  rw [if_neg h]
  by_cases h10 : m < 10
  · rw [Lib.decDigits, dif_pos h10, if_pos (by omega), Nat.mod_eq_of_lt h10]
    rfl
  · rw [Lib.decDigits, dif_neg h10, if_neg (by omega)]
theorem dgs_nil {m : Nat} : dgs m = [] ↔ m = 0 := by
  unfold dgs
  by_cases e : m = 0
  · simp [e]
  · simp [e, dec_ne]
theorem dec_dgs (m : Nat) : Lib.decDigits m = if m = 0 then [48] else dgs m := by
  by_cases e : m = 0
  · subst e
    rw [if_pos rfl, Lib.decDigits, dif_pos (by decide)]
    rfl
  · simp [dgs, e]
end Go.Proofs.YtpmakljahhhnfaaGreatDoor
