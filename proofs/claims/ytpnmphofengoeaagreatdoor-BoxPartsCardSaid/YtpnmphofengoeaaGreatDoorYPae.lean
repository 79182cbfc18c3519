/-
  Contracts and words that the statement's proof rests on: Bits, Acc, Sum, Guess, Raise, Shr, Blen.
-/
import Derived.Lib.BitFns
import Derived.Test.YtpnmphofengoeaaGreatDoorYPad
namespace Go.Proofs.YtpnmphofengoeaaGreatDoor
open Go.RowKit
set_option linter.unusedVariables false

def cmpI (x y : Int) : Int := if x < y then -1 else if y < x then 1 else 0

theorem cmpI_lt {x y : Int} (h : x < y) : cmpI x y = -1 := by unfold cmpI; rw [if_pos h]
theorem cmpI_gt {x y : Int} (h : y < x) : cmpI x y = 1 := by unfold cmpI; rw [if_neg (by omega), if_pos h]
theorem cmpI_eq {x y : Int} (h : x = y) : cmpI x y = 0 := by unfold cmpI; rw [if_neg (by omega), if_neg (by omega)]
theorem ret_int {k : IntKind} {a b : Int} (h : a = b) : Ending.returned (.int k a) = .returned (.int k b) := by rw [h]

theorem compareInt_any (x y : Int) (w : World) : Calls Tryz.prog 44 #[.int .i64 x, .int .i64 y] w fun e w' => e = .returned (.int .i64 (cmpI x y)) ∧ w = w' := by
  go_enter Tryz.func44, Tryz.ntmps44
  go_wp2
  all_goals go_ret
  · exact ⟨ret_int (cmpI_lt (by assumption)).symm, rfl⟩
  · exact ⟨ret_int (cmpI_gt (by assumption)).symm, rfl⟩
  · exact ⟨ret_int (cmpI_eq (by omega)).symm, rfl⟩

def blen (n : Nat) : Nat := if n = 0 then 0 else Nat.log2 n + 1

theorem blen_zero : blen 0 = 0 := rfl
theorem blen_lt (n : Nat) : n < 2 ^ blen n := by
  unfold blen
  split
  · subst_vars; decide
  · exact Nat.lt_log2_self
theorem blen_le {n : Nat} (h : n ≠ 0) : 2 ^ (blen n - 1) ≤ n := by
  unfold blen
  rw [if_neg h]; exact Nat.log2_self_le h
theorem blen_uniq {n k : Nat} (h0 : n ≠ 0) (h1 : 2 ^ k ≤ n) (h2 : n < 2 ^ (k + 1)) : blen n = k + 1 := by
  unfold blen
  rw [if_neg h0, (Nat.log2_eq_iff h0).2 ⟨h1, h2⟩]
theorem blen_half {n : Nat} (h : n ≠ 0) : blen n = 1 + blen (n / 2) := by
  by_cases h1 : n = 1
  · subst h1; decide
  · have h2 : n / 2 ≠ 0 := by omega
    unfold blen
    rw [if_neg h, if_neg h2, Nat.log2_def, if_pos (by omega)]
    omega

theorem bitLenAux_eq : ∀ (f n : Nat), n < 2 ^ f → Lib.bitLenAux f n = blen n
  | 0, n, h => by
    have : n = 0 := by simpa using h
    subst this; rfl
  | f + 1, n, h => by
    unfold Lib.bitLenAux
    by_cases h0 : n = 0
    · subst h0; rfl
    · rw [if_neg h0, bitLenAux_eq f (n / 2) (by rw [Nat.pow_succ] at h; omega), blen_half h0]

theorem bitLen_eq (n : Nat) (h : n < 4294967296) : Lib.bitLen n = blen n := bitLenAux_eq 64 n (by omega)

theorem blen_shift (n k : Nat) (h : 2 ^ k ≤ n) : blen n = k + blen (n / 2 ^ k) := by
  induction k with
  | zero => simp
  | succ k ih =>
    have h1 : 2 ^ k ≤ n := Nat.le_trans (Nat.pow_le_pow_right (by decide) (Nat.le_succ k)) h
    have h2 : n / 2 ^ k ≠ 0 := by
      have := (Nat.le_div_iff_mul_le (Nat.two_pow_pos k)).2 (show 1 * 2 ^ k ≤ n by omega)
      omega
    rw [ih h1, blen_half h2, Nat.div_div_eq_div_mul, Nat.pow_succ]
    omega
theorem blen_mono_le {n k : Nat} (h : n < 2 ^ k) : blen n ≤ k := by
  by_cases h0 : n = 0
  · subst h0; rw [blen_zero]; omega
  · rcases Nat.lt_or_ge k (blen n) with hlt | hge
    · have := blen_le h0
      have := Nat.pow_le_pow_right (n := 2) (by decide) (show k ≤ blen n - 1 by omega)
      omega
    · exact hge

theorem index_len8 (w : World) (k : Nat) (h : k < 256) :
    (Instr.index 9 (.string Lib.len8tab) (.int .u8 (k : Int))).run Tryz.prog w = .ok (.int .u8 (blen k : Int)) w := by
  rw [Lib.run_index_len8tab (P := Tryz.prog) w 9 .u8 (k : Int) Tryz.underlying9 (by omega) (by omega)]
  have := Lib.len8_eq ⟨k, h⟩
  simp only at this; rw [this, bitLen_eq k (by omega)]

end Go.Proofs.YtpnmphofengoeaaGreatDoor

namespace Go.Proofs.YtpnmphofengoeaaGreatDoor
open Go.RowKit
set_option linter.unusedVariables false

def Turned (w : World) (g o : Nat) (l zs : List Nat) (w' : World) : Prop := Own w' g (mid l o zs) ∧ w.grownBy w' (some g) ∧ Lim zs

theorem prod_lt {y f : Nat} (hy : y < 4294967296) (hf : f < 4294967296) : y * f ≤ 4294967295 * 4294967295 := Nat.mul_le_mul (by omega) (by omega)

theorem wrap_u64_nat (s : Nat) (h : s < 18446744073709551616) : IntKind.u64.wrap (s : Int) = s := by
  rw [show IntKind.u64.wrap (s : Int) = (s : Int) % 18446744073709551616 from by simp [IntKind.wrap, IntKind.bits, IntKind.signed]]
  omega

end Go.Proofs.YtpnmphofengoeaaGreatDoor

namespace Go.Proofs.YtpnmphofengoeaaGreatDoor
open Go.RowKit
set_option linter.unusedVariables false

theorem Turned.all {w w' : World} {g : Nat} {l zs : List Nat} (h : Turned w g 0 l zs w') (hz : zs.length = l.length) : Own w' g zs := by
  have := h.1
  unfold mid at this
  rw [hz] at this
  simpa using this

theorem cmpI_ge {a b : Nat} (h : b ≤ a) : ∃ z : Int, cmpI (a : Int) (b : Int) = z ∧ 0 ≤ z := by
  rcases Nat.lt_or_ge b a with h1 | h1
  · exact ⟨_, cmpI_gt (by omega), by omega⟩
  · exact ⟨_, cmpI_eq (by omega), by omega⟩

end Go.Proofs.YtpnmphofengoeaaGreatDoor

namespace Go.Proofs.YtpnmphofengoeaaGreatDoor
open Go.RowKit
set_option linter.unusedVariables false

theorem Turned.trans {w w1 w2 : World} {g o : Nat} {l zs ys : List Nat} (h : Turned w g o l zs w1) (k : Turned w1 g o (mid l o zs) ys w2) (hl : o + zs.length ≤ l.length) (hz : ys.length = zs.length) : Turned w g o l ys w2 :=
  ⟨by have := k.1; rwa [mid_mid hl hz] at this, grown_trans h.2.1 k.2.1, k.2.2⟩

theorem div_split (R V : Nat) : R / V * V + R % V = R := by rw [Nat.mul_comm]; exact Nat.div_add_mod R V

end Go.Proofs.YtpnmphofengoeaaGreatDoor

namespace Go.Proofs.YtpnmphofengoeaaGreatDoor
open Go.RowKit
set_option linter.unusedVariables false

theorem pow_split (sk lo : Nat) : 2 ^ (32 * sk + lo) = 4294967296 ^ sk * 2 ^ lo := by rw [Nat.pow_add, Nat.pow_mul]

end Go.Proofs.YtpnmphofengoeaaGreatDoor

namespace Go.Proofs.YtpnmphofengoeaaGreatDoor
open Go.RowKit
set_option linter.unusedVariables false

theorem val_drop_div {xs : List Nat} (hl : Lim xs) (k : Nat) : val (xs.drop k) = val xs / 4294967296 ^ k := by
  rcases Nat.lt_or_ge xs.length k with h | h
  · rw [List.drop_eq_nil_of_le (by omega), Nat.div_eq_of_lt]
    · rfl
    · exact Nat.lt_of_lt_of_le (val_lt hl) (Nat.pow_le_pow_right (by decide) (by omega))
  · rw [val_take_drop xs h, Nat.add_mul_div_left _ _ (Nat.pow_pos (by decide)), Nat.div_eq_of_lt, Nat.zero_add]
    have := val_lt (hl.take k)
    rwa [List.length_take, Nat.min_eq_left h] at this

end Go.Proofs.YtpnmphofengoeaaGreatDoor

namespace Go.Proofs.YtpnmphofengoeaaGreatDoor
set_option linter.unusedVariables false

theorem blen_limbs {n : Nat} (h : n ≠ 0) : blen n = ((limbs n).length - 1) * 32 + blen ((limbs n).getD ((limbs n).length - 1) 0) := by
  have hl : (limbs n).length ≠ 0 := fun e => h (limbs_length_zero.1 e)
  have hs := val_take_succ (xs := limbs n) (k := (limbs n).length - 1) (by omega)
  rw [show (limbs n).length - 1 + 1 = (limbs n).length by omega, List.take_length, val_limbs] at hs
  have ht := val_lt ((lim_limbs n).take ((limbs n).length - 1)); rw [List.length_take, Nat.min_eq_left (by omega)] at ht
  have hp : 0 < 4294967296 ^ ((limbs n).length - 1) := Nat.pow_pos (by decide)
  have hlast := limbs_last h
  have hd : n / 4294967296 ^ ((limbs n).length - 1) = (limbs n).getD ((limbs n).length - 1) 0 := by
    have : ∀ p q r, p < 4294967296 ^ ((limbs n).length - 1) → r = p + 4294967296 ^ ((limbs n).length - 1) * q → r / 4294967296 ^ ((limbs n).length - 1) = q := by
      intro p q r hpq e
      rw [e, Nat.add_mul_div_left _ _ hp, Nat.div_eq_of_lt hpq, Nat.zero_add]
    exact this _ _ _ ht hs
  have hge : 4294967296 ^ ((limbs n).length - 1) ≤ n := by
    have := Nat.le_mul_of_pos_right (4294967296 ^ ((limbs n).length - 1)) (Nat.pos_of_ne_zero hlast)
    omega
  rw [pow32] at hd hge; rw [blen_shift n _ hge, hd]
end Go.Proofs.YtpnmphofengoeaaGreatDoor
