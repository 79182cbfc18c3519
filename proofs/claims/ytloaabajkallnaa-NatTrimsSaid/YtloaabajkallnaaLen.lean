/-
  What nat.Len does, for every slice of limbs.
-/
import Derived.Test.YtloaabajkallnaaCut
import Derived.Test.YtloaabajkallnaaBits
namespace Go.Proofs.Ytloaabajkallnaa
open Go.RowKit
set_option linter.unusedVariables false

theorem pow32 (k : Nat) : 4294967296 ^ k = 2 ^ (k * 32) := by rw [show 4294967296 = 2 ^ 32 by decide, ← Nat.pow_mul, Nat.mul_comm]

/-- How many bits a number needs, off its highest limb. -/
theorem blen_limbs {n : Nat} (h : n ≠ 0) : blen n = ((limbs n).length - 1) * 32 + blen ((limbs n).getD ((limbs n).length - 1) 0) := by
  have hl : (limbs n).length ≠ 0 := fun e => h (limbs_length_zero.1 e)
  have hs := val_take_succ (xs := limbs n) (k := (limbs n).length - 1) (by omega)
  rw [show (limbs n).length - 1 + 1 = (limbs n).length by omega, List.take_length, val_limbs] at hs
  have ht := val_lt ((lim_limbs n).take ((limbs n).length - 1))
  rw [List.length_take, Nat.min_eq_left (by omega)] at ht
  have hp : 0 < 4294967296 ^ ((limbs n).length - 1) := Nat.pow_pos (by decide)
  have hlast := limbs_last h
  have hd : n / 4294967296 ^ ((limbs n).length - 1) = (limbs n).getD ((limbs n).length - 1) 0 := by
    have : ∀ p q r, p < 4294967296 ^ ((limbs n).length - 1) → r = p + 4294967296 ^ ((limbs n).length - 1) * q → r / 4294967296 ^ ((limbs n).length - 1) = q := by
      intro p q r hpq e
      rw [e, Nat.add_mul_div_left _ _ hp, Nat.div_eq_of_lt hpq, Nat.zero_add]
    exact this _ _ _ ht hs
  have hge : 4294967296 ^ ((limbs n).length - 1) ≤ n := by
    have := Nat.le_mul_of_pos_right (4294967296 ^ ((limbs n).length - 1)) (Nat.pos_of_ne_zero hlast)
    omega
  rw [pow32] at hd hge
  rw [blen_shift n _ hge, hd]

set_option maxHeartbeats 400000 in
theorem len_core (w : World) (b o n k c x L : Nat) (HC : Hid (Calls Try.prog 36 #[.slice (some ⟨b, o, none⟩) n c] w fun e w' => e = .returned (.slice (some ⟨b, o, none⟩) k c) ∧ w = w'))
    (hbig : k ≤ 1099511627776) (hpos : k ≠ 0) (hck : w.cell? ⟨b, o + (k - 1), none⟩ = some (.int .u32 (x : Int))) (hlt : x < 4294967296) (HB : Hid (L = (k - 1) * 32 + blen x)) :
    Calls Try.prog 25 #[.slice (some ⟨b, o, none⟩) n c] w fun e w' => e = .returned (.int .i64 (L : Int)) ∧ w = w' := by
  have hx := blen_mono_le (n := x) (k := 32) hlt
  have hk0 : ((k : Int) == 0) = false := by simpa using hpos
  have i1 : ((k : Int) - 1).toNat = k - 1 := by omega
  go_enter Try.func25, Try.ntmps25
  go_wp2_with (first
    | (go_at_call 36; ((with_reducible refine HC.out.mono ?_); rintro e w' ⟨rfl, rfl⟩))
    | (go_at_call 42; ((with_reducible refine (len32_any x hlt _).mono ?_); rintro e w' ⟨rfl, rfl⟩)))
  go_ret
  have e := HB.out
  exact ⟨ret_int (by omega), rfl⟩

set_option maxHeartbeats 400000 in
theorem len_any (w : World) (b : Nat) (A : Option Addr) (n c : Nat) (xs : List Nat) (h : Sl w b A n c xs) :
    Calls Try.prog 25 #[.slice A n c] w fun e w' => e = .returned (.int .i64 (blen (val xs) : Int)) ∧ w = w' := by
  have hle := val_limbs_le h.lim
  have hlen := h.len
  have hsl := h.take (k := (limbs (val xs)).length) (by omega)
  rw [limbs_prefix h.lim] at hsl
  have HC := Lib.hid (cut_any w b A n c xs h)
  have hbig := hsl.big
  by_cases h0 : val xs = 0
  · rw [h0] at HC ⊢
    rw [limbs_zero] at HC
    clear hbig hsl hlen hle h h0
    go_enter Try.func25, Try.ntmps25
    go_wp2_with (go_at_call 36; ((with_reducible refine HC.out.mono ?_); rintro e w' ⟨rfl, rfl⟩))
    go_ret
    exact ⟨ret_int (by rw [blen_zero]; rfl), rfl⟩
  · have HB := Lib.hid (blen_limbs h0)
    have hpos : (limbs (val xs)).length ≠ 0 := fun e => h0 (limbs_length_zero.1 e)
    obtain ⟨o, rfl, hc⟩ := hsl.at (by omega)
    exact len_core w b o n _ c _ _ HC hbig hpos (hc _ (by omega)) ((lim_limbs (val xs)).getD _) HB
end Go.Proofs.Ytloaabajkallnaa
