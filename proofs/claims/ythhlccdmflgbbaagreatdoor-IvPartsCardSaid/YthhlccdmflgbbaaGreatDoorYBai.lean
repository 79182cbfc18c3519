/-
  Contracts and words that the statement's proof rests on, several texts in one: Wc, Wg, Wf.
-/
import Derived.IntWalk
import Derived.Test.YthhlccdmflgbbaaGreatDoorYBag
/-
  What whole.Sign, Cmp, Same and May do.
-/
namespace Go.Proofs.YthhlccdmflgbbaaGreatDoor
open Go.RowKit
set_option linter.unusedVariables false

theorem cmpI_zero {x y : Int} : cmpI x y = 0 ↔ x = y := by unfold cmpI; split <;> (try split) <;> omega

end Go.Proofs.YthhlccdmflgbbaaGreatDoor

/-
  What whole.Mul does: the product of all numbers of a slice, whose limbs together are not too many.
-/
namespace Go.Proofs.YthhlccdmflgbbaaGreatDoor
open Go.RowKit
set_option linter.unusedVariables false

theorem sg_mul (s t : Bool) (a b : Nat) : sg (s != t) (a * b) = sg s a * sg t b := by
  cases s <;> cases t <;> simp [sg, Int.neg_mul, Int.mul_neg]

end Go.Proofs.YthhlccdmflgbbaaGreatDoor

/-
  What whole.word and Int do.
-/
namespace Go.Proofs.YthhlccdmflgbbaaGreatDoor
open Go.RowKit
set_option linter.unusedVariables false

theorem val_int {k : IntKind} {a b : Int} (h : a = b) : Value.int k a = .int k b := by rw [h]
end Go.Proofs.YthhlccdmflgbbaaGreatDoor
