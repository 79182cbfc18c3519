/-
  Contracts and words that the statement's proof rests on, several texts in one: Vm.
-/
import Derived.Below
import Derived.BigQuiet
import Derived.Carry
import Derived.Deep.Draws
import Derived.Deep.MidRow
import Derived.Deep.QuietTactic
import Derived.Deep.RegionHeld3
import Derived.Deep.RegionWith
import Derived.IntWalk
import Derived.Laws.CopyOwn
import Derived.Laws.MakeOwn
import Derived.Laws.OwnMore
import Derived.Laws.Rows
import Derived.Lib.BitFns
import Derived.Lib.Hide
import Derived.Maps.AppendAt
import Derived.StillTailTactics
import Derived.Test.YthhlccdmflgbbaaRows
import Derived.WalkKit
import Derived.WalkLawsBesides
import Derived.WalkSpells
import Derived.Test.YthhlccdmflgbbaaYAae
import Derived.Test.YthhlccdmflgbbaaYAaf
import Derived.Test.YthhlccdmflgbbaaYAag
import Derived.Test.YthhlccdmflgbbaaYAai
import Derived.Test.YthhlccdmflgbbaaYAaj
/-
  Plain arithmetic of numbers times powers of two: values, sums and products of normal forms, and how great they are. No condition; no Go text.
-/
namespace Go.Proofs.Ythhlccdmflgbbaa
set_option linter.unusedVariables false

theorem p2pos (k : Nat) : (0 : Int) < 2 ^ k := Int.pow_pos (by decide)
def KK : Nat := 4194304
theorem KK_eq : KK = 4194304 := rfl
theorem cmpI_scale {a b p : Int} (hp : 0 < p) : cmpI (a * p) (b * p) = cmpI a b := by
  unfold cmpI
  by_cases h1 : a < b
  · rw [if_pos h1, if_pos (Int.mul_lt_mul_of_pos_right h1 hp)]
  · have h1' : ¬ a * p < b * p := Int.not_lt.2 (Int.mul_le_mul_of_nonneg_right (Int.not_lt.1 h1) (Int.le_of_lt hp))
    rw [if_neg h1, if_neg h1']
    by_cases h2 : b < a
    · rw [if_pos h2, if_pos (Int.mul_lt_mul_of_pos_right h2 hp)]
    · have h2' : ¬ b * p < a * p := Int.not_lt.2 (Int.mul_le_mul_of_nonneg_right (Int.not_lt.1 h2) (Int.le_of_lt hp))
      rw [if_neg h2, if_neg h2']
end Go.Proofs.Ythhlccdmflgbbaa
