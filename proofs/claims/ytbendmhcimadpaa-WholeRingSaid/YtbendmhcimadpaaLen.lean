/-
  What nat.Len does, for every slice of limbs.
-/
import Derived.Test.YtbendmhcimadpaaCut
import Derived.Test.YtbendmhcimadpaaBlen
namespace Go.Proofs.Ytbendmhcimadpaa
open Go.RowKit
set_option linter.unusedVariables false

set_option maxHeartbeats 400000 in
theorem len_core (w : World) (b o n k c x L : Nat) (HC : Hid (Calls Try.prog 55 #[.slice (some ⟨b, o, none⟩) n c] w fun e w' => e = .returned (.slice (some ⟨b, o, none⟩) k c) ∧ w = w'))
    (hbig : k ≤ 1099511627776) (hpos : k ≠ 0) (hck : w.cell? ⟨b, o + (k - 1), none⟩ = some (.int .u32 (x : Int))) (hlt : x < 4294967296) (HB : Hid (L = (k - 1) * 32 + blen x)) :
    Calls Try.prog 41 #[.slice (some ⟨b, o, none⟩) n c] w fun e w' => e = .returned (.int .i64 (L : Int)) ∧ w = w' := by
  have hx := blen_mono_le (n := x) (k := 32) hlt
  have hk0 : ((k : Int) == 0) = false := by simpa using hpos
  have i1 : ((k : Int) - 1).toNat = k - 1 := by omega
  go_enter Try.func41, Try.ntmps41
  go_wp2_with (first
    | (go_at_call 55; ((with_reducible refine HC.out.mono ?_); rintro e w' ⟨rfl, rfl⟩))
    | (go_at_call 57; ((with_reducible refine (len32_any x hlt _).mono ?_); rintro e w' ⟨rfl, rfl⟩)))
  go_ret
  have e := HB.out
  exact ⟨ret_int (by omega), rfl⟩

set_option maxHeartbeats 400000 in
theorem len_any (w : World) (b : Nat) (A : Option Addr) (n c : Nat) (xs : List Nat) (h : Sl w b A n c xs) :
    Calls Try.prog 41 #[.slice A n c] w fun e w' => e = .returned (.int .i64 (blen (val xs) : Int)) ∧ w = w' := by
  have hle := val_limbs_le h.lim
  have hlen := h.len
  have hsl := h.take (k := (limbs (val xs)).length) (by omega)
  rw [limbs_prefix h.lim] at hsl
  have HC := Lib.hid (cut_any w b A n c xs h)
  have hbig := hsl.big
  by_cases h0 : val xs = 0
  · rw [h0] at HC ⊢
    rw [limbs_zero] at HC
    clear hbig hsl hlen hle h h0
    go_enter Try.func41, Try.ntmps41
    go_wp2_with (go_at_call 55; ((with_reducible refine HC.out.mono ?_); rintro e w' ⟨rfl, rfl⟩))
    go_ret
    exact ⟨ret_int (by rw [blen_zero]; rfl), rfl⟩
  · have HB := Lib.hid (blen_limbs h0)
    have hpos : (limbs (val xs)).length ≠ 0 := fun e => h0 (limbs_length_zero.1 e)
    obtain ⟨o, rfl, hc⟩ := hsl.at (by omega)
    exact len_core w b o n _ c _ _ HC hbig hpos (hc _ (by omega)) ((lim_limbs (val xs)).getD _) HB
end Go.Proofs.Ytbendmhcimadpaa
