/-
  Contracts and words that the statement's proof rests on, several texts in one: Valr.
-/
import Derived.Test.YteejbcimmmcnlaaGreatDoorYAag
import Derived.Test.YteejbcimmmcnlaaGreatDoorYAaj
/-
  What nat.Shl and nat.Root do, said of numbers.
-/
namespace Go.Proofs.YteejbcimmmcnlaaGreatDoor
open Go.RowKit
set_option linter.unusedVariables false

section
variable {w : World} {A1 A2 : Option Addr} {n m c1 c2 a b : Nat}
theorem rt_le (a : Nat) : rt a ≤ a := by
  have h := (rt_spec a).1
  rcases Nat.eq_zero_or_pos (rt a) with e | e
  · omega
  · have := Nat.le_mul_of_pos_right (rt a) e
    omega

theorem vRoot (h1 : Rd w A1 n c1 a) (hn : n ≤ 1073741824) : Calls Tryz.prog 152 #[.slice A1 n c1] w (P1B w n (rt a) (decide (rt a * rt a = a))) := by
  have hl := Nat.le_trans (limbs_length_mono (rt_le a)) h1.limbs_le; obtain ⟨b1, xs, h1, rfl⟩ := h1; refine (root_any w b1 A1 n c1 xs h1 (by omega)).mono ?_; rintro e w' ⟨A, c, rfl, o, hb⟩; exact ⟨A, _, c, rfl, o, hl, hb⟩
theorem vRootE {r : Nat} {t : Bool} (h1 : Rd w A1 n c1 a) (hn : n ≤ 1073741824) (hr : rt a = r) (ht : decide (r * r = a) = t) : Calls Tryz.prog 152 #[.slice A1 n c1] w (P1B w n r t) := by
  subst hr; subst ht; exact vRoot h1 hn
theorem limbs_shl_len {a n s : Nat} (ha : a < 4294967296 ^ n) : (limbs (a * 2 ^ s)).length ≤ n + s / 32 + 1 := by
  have := limbs_mul_len (m := s / 32 + 1) (b := 2 ^ s) ha (by rw [pow32]; exact Nat.pow_lt_pow_right (by decide) (by omega))
  omega
theorem vShl (s : Nat) (h1 : Rd w A1 n c1 a) (hn : n ≤ 1073741824) (hs : s ≤ 16777216) : Calls Tryz.prog 147 #[.slice A1 n c1, .int .i64 (s : Int)] w (P1 w (n + s / 32 + 1) (a * 2 ^ s)) := by
  have hl := limbs_shl_len (s := s) h1.bound; obtain ⟨b1, xs, h1, rfl⟩ := h1; refine (shl_any w b1 A1 n c1 xs s h1 hs (by omega)).mono ?_; rintro e w' ⟨g, A, c, rfl, hm, hb⟩; exact ⟨A, _, c, rfl, hm.nm, hl, hb⟩
theorem vShl_low (z : Int) (h1 : Rd w A1 n c1 a) (hz : z < 1) : Calls Tryz.prog 147 #[.slice A1 n c1, .int .i64 z] w (P1 w n a) := by
  have hl := h1.limbs_le; obtain ⟨b1, xs, h1, rfl⟩ := h1; refine (shl_low w b1 A1 n c1 xs z h1 hz).mono ?_; rintro e w' ⟨g, A, c, rfl, hm, hb⟩; exact ⟨A, _, c, rfl, hm.nm, hl, hb⟩
theorem vShlE {s r : Nat} (h1 : Rd w A1 n c1 a) (hn : n ≤ 1073741824) (hs : s ≤ 16777216) (hr : a * 2 ^ s = r) : Calls Tryz.prog 147 #[.slice A1 n c1, .int .i64 (s : Int)] w (P1 w (n + s / 32 + 1) r) := hr ▸ vShl s h1 hn hs
end

theorem blen_shl {a s : Nat} (ha : a ≠ 0) : blen (a * 2 ^ s) = blen a + s := by
  have h1 := blen_lt a; have h2 := blen_le ha
  have h3 : blen a ≠ 0 := fun e => by rw [e] at h1; simp at h1; exact ha h1
  have hp := Nat.two_pow_pos s
  have := blen_uniq (n := a * 2 ^ s) (k := blen a - 1 + s) (by have := Nat.mul_pos (Nat.pos_of_ne_zero ha) hp; omega)
    (by rw [Nat.pow_add]; exact Nat.mul_le_mul_right _ h2)
    (by rw [show blen a - 1 + s + 1 = blen a + s by omega, Nat.pow_add]; exact Nat.mul_lt_mul_of_pos_right h1 hp)
  omega
theorem blen_pow (s : Nat) : blen (2 ^ s) = s + 1 := by
  have := blen_shl (a := 1) (s := s) (by decide)
  rw [Nat.one_mul] at this; rw [this]
  have : blen 1 = 1 := by decide
  omega
end Go.Proofs.YteejbcimmmcnlaaGreatDoor
