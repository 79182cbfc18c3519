/-
  Contracts and words that the statement's proof rests on, several texts in one: Opn.
-/
import Derived.Lib.SmallJoins
import Derived.Test.YtpmakljahhhnfaaDoorYBaq
import Derived.Test.YtpmakljahhhnfaaDoorYBaw
/-
  What a row's proof is told of numbers of 64 bits that come in.
-/
namespace Go.Proofs.YtpmakljahhhnfaaDoor
open Go.ChangeShapes Go.WideShapes Go.ChangeAt Go.RowKit Go.Deep
set_option linter.unusedVariables false
set_option maxRecDepth 100000

section
variable {H : Type} {enc : TypeId × Value → H} {W : World}

/-- What a row's proof knows of a slice of numbers that came in. -/
def RowsN (w : World) (a : Option Addr) (len cap : Nat) : Prop :=
  (a = none ∧ len = 0 ∧ cap = 0) ∨ ∃ x, a = some x ∧ len ≤ cap ∧ cap ≤ maxLen ∧ ∀ i, i < len → ∃ D s M E, w.cell? (x.add (i * 4)) = some (.int .i64 D) ∧ w.cell? (x.add (i * 4 + 1)) = some (.bool s) ∧ w.cell? (x.add (i * 4 + 2)) = some (.int .u64 M) ∧ w.cell? (x.add (i * 4 + 3)) = some (.int .i64 E) ∧ M < 18446744073709551616

theorem RowsN.len {w : World} {a : Option Addr} {len cap : Nat} (h : RowsN w a len cap) : len ≤ 9223372036854775807 := by
  rcases h with ⟨_, rfl, _⟩ | ⟨x, _, h1, h2, _⟩
  · omega
  · unfold maxLen at h2; omega
end
end Go.Proofs.YtpmakljahhhnfaaDoor
