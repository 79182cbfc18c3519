/-
  The document's answers of layer 1: what Same does, said of numbers.
-/
import Derived.Test.YtbendmhcimadpaaRefa
namespace Go.Proofs.Ytbendmhcimadpaa
open Go.RowKit
set_option linter.unusedVariables false

/-- Are two lists of limbs the same? Of trim limbs: are the numbers? -/
theorem same_core (w : World) (b1 b2 : Nat) (A1 A2 : Option Addr) (n c1 c2 : Nat) (xs : List Nat) (h1 : Sl w b1 A1 n c1 xs) (h2 : Sl w b2 A2 n c2 xs) :
    Calls Try.prog 35 #[.slice A1 n c1, .slice A2 n c2] w fun e w' => e = .returned (.bool true) ∧ Below w.heap.size w w' := by
  have hb := h1.big
  have hne : ((n : Int) != (n : Int)) = false := by simp
  go_enter Try.func35, Try.ntmps35
  go_wp2
  go_loopw [5] (fun i wr => ∃ k q : Nat, k ≤ n ∧ i = .int .i64 k ∧ wr = w.drewN q) (fun i _ => n - (intOf i).toNat)
  case atStart => exact ⟨0, 0, Nat.zero_le _, rfl, rfl⟩
  case round =>
    obtain ⟨k, q, hk, rfl, rfl⟩ := hrel
    by_cases hlt : k < n
    · obtain ⟨o1, rfl, k1⟩ := h1.at (by omega)
      obtain ⟨o2, rfl, k2⟩ := h2.at (by omega)
      have g1 := k1 k hlt
      have g2 := k2 k hlt
      clear k1 k2
      revert g1 g2
      generalize xs.getD k 0 = x
      intro g1 g2
      have hx : ((x : Int) != (x : Int)) = false := by simp
      go_wp2
      go_quiet (fail)
      go_wp2
      go_roundw
      case rel => exact ⟨k + 1, _, by omega, by go_num, by first | rfl | rw [World.drewN_drewN]⟩
      case measure => simp [intOf]; omega
    · go_wp2
      go_ret
      exact ⟨rfl, below_drewN (Below.refl _ _) _⟩

theorem rSame {w : World} {A1 A2 : Option Addr} {n m c1 c2 v : Nat} (h1 : Nm w A1 n c1 v) (h2 : Nm w A2 m c2 v) :
    Calls Try.prog 35 #[.slice A1 n c1, .slice A2 m c2] w fun e w' => e = .returned (.bool true) ∧ Below w.heap.size w w' := by
  obtain rfl : n = m := by rw [← h1.len, ← h2.len]
  obtain ⟨b1, h1⟩ := h1
  obtain ⟨b2, h2⟩ := h2
  exact same_core w b1 b2 A1 A2 n c1 c2 _ h1 h2
end Go.Proofs.Ytbendmhcimadpaa
