/-
  Contracts and words that the statement's proof rests on, several texts in one: Pp.
-/
import Derived.Lib.Atoi
import Derived.Lib.ItoaNum
import Derived.Lib.Strings
import Derived.Lib.TrimByte
/-
  Texts of numbers, as lists of bytes: digits, what a text tells, a number's text. No Go function.
-/
namespace Go.Proofs.YtpmakljahhhnfaaDoor
set_option linter.unusedVariables false
set_option linter.unusedSimpArgs false

/-! ### Tens -/

/-- How many factors ten. -/
def v10 (n : Nat) : Nat := if h : n = 0 ∨ n % 10 ≠ 0 then 0 else v10 (n / 10) + 1
termination_by n
decreasing_by omega
/-- A number without its tens. -/
def u10 (n : Nat) : Nat := n / 10 ^ v10 n
/-- A sign's number. -/
def zs (s : Bool) (a : Nat) : Int := if s then -(a : Int) else a
end Go.Proofs.YtpmakljahhhnfaaDoor
