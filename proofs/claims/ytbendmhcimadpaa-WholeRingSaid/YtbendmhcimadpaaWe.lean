/-
  What whole.May does.
-/
import Derived.Test.YtbendmhcimadpaaWa
namespace Go.Proofs.Ytbendmhcimadpaa
open Go.RowKit
set_option linter.unusedVariables false

/-- May a number be that has the sign s and n limbs, and whose limbs are the number a? -/
def mayB (s : Bool) (n a : Nat) : Bool := decide ((limbs a).length = n) && (decide (0 < n) || !s)
theorem mayB_zero (s : Bool) {a : Nat} (h : a < 4294967296 ^ 0) : mayB s 0 a = !s := by
  obtain rfl : a = 0 := by simpa using h
  simp [mayB, limbs_zero]
theorem mayB_pos (s : Bool) {n : Nat} {xs : List Nat} (hl : Lim xs) (h : xs.length = n) (hn : 0 < n) : mayB s n (val xs) = (((xs.getD (n - 1) 0 : Nat) : Int) != 0) := by
  have h1 : decide (0 < n) = true := by simpa using hn
  unfold mayB
  rw [h1, Bool.true_or, Bool.and_true]
  by_cases e : xs.getD (n - 1) 0 = 0
  · rw [e]
    have : (limbs (val xs)).length ≤ n - 1 := by
      apply limbs_length_le
      have e3 : val (xs.drop (n - 1)) = 0 := by rw [val_drop (by omega), e, show n - 1 + 1 = n by omega, List.drop_of_length_le (by omega)]; rfl
      have e2 := val_take_drop xs (k := n - 1) (by omega)
      rw [e3, Nat.mul_zero, Nat.add_zero] at e2
      rw [e2]
      have := val_lt (hl.take (n - 1))
      rwa [List.length_take, h, Nat.min_eq_left (by omega)] at this
    simp
    omega
  · have := take_eq_limbs hl (k := n) (by omega) (by rw [List.drop_of_length_le (by omega)]; rfl) (fun _ => e)
    have hlen : (limbs (val xs)).length = n := by rw [← this, List.length_take]; omega
    rw [hlen]
    have e' : ((xs.getD (n - 1) 0 : Nat) : Int) ≠ 0 := by omega
    simp only [decide_true]
    exact (bne_iff_ne.2 e').symm
theorem mayB_wn {w : World} {s : Bool} {A : Option Addr} {n c : Nat} {z : Int} (h : Wn w s A n c z) : mayB s n z.natAbs = true := by
  have hl := h.1.len
  have hp := h.1.pos
  have hs := h.2
  unfold mayB
  rw [hl]
  by_cases e : z < 0
  · have : 0 < n := by omega
    simp [this]
  · rw [hs]; simp [e]

set_option maxHeartbeats 400000 in
theorem wMay {w : World} {A : Option Addr} {n c a : Nat} {s : Bool} {r : Bool} (h : Rd w A n c a) (hr : mayB s n a = r) : Calls Try.prog 33 #[.agg #[.bool s, .slice A n c]] w (PB w r) := by
  rcases Nat.eq_zero_or_pos n with e | hn
  · subst e
    rw [mayB_zero s h.bound] at hr
    subst hr
    go_enter Try.func33, Try.ntmps33
    go_wp2
    go_ret
    exact ⟨rfl, bel1 _ _⟩
  · obtain ⟨b, xs, h, rfl⟩ := h
    rw [mayB_pos s h.lim h.len hn] at hr
    have hbig := h.big
    have hcap := h.cap
    have hlt := h.lt hn
    obtain ⟨o, rfl, hcell⟩ := h.at hn
    have hck := hcell (n - 1) (by omega)
    clear hcell h
    have hi : ((n : Int) - 1).toNat = n - 1 := by omega
    revert hr hck
    generalize xs.getD (n - 1) 0 = x
    intro hr hck
    have HR := Lib.hid hr
    have hq : ((n : Int) == 0) = false := by have : (n : Int) ≠ 0 := by omega
                                             simpa using this
    have hne : b ≠ w.heap.size := by omega
    clear hr
    go_enter Try.func33, Try.ntmps33
    go_wp2
    go_ret
    exact ⟨ret_bool HR.out, bel1 _ _⟩
end Go.Proofs.Ytbendmhcimadpaa
