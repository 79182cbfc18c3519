/-
  Contracts and words that the statement's proof rests on: Opd.
-/
import Derived.ChangeSame
import Derived.Deep.Slices
import Derived.LaidHandle
import Derived.Lay
import Derived.Lib.LaidTab
import Derived.MakeChecks
import Derived.OpenShut
import Derived.ProofKit
import Derived.Test.YtpnmphofengoeaaDoorYHan
namespace Go.Proofs.YtpnmphofengoeaaDoor
open Go.ChangeShapes Go.WideShapes Go.ChangeAt Go.RowKit Go.Deep
set_option linter.unusedVariables false
set_option maxRecDepth 100000

section
variable {H : Type} {enc : TypeId × Value → H} {W : World}

theorem cells_int : Tryd.prog.cellsOf 3 = 1 := by kernel_rfl

def RowsD (w : World) (a : Option Addr) (len cap : Nat) : Prop :=
  (a = none ∧ len = 0 ∧ cap = 0) ∨ ∃ x, a = some x ∧ len ≤ cap ∧ cap ≤ maxLen ∧ ∀ i, i < len → ∃ s b n c zs e, w.cell? (x.add (i * 3)) = some (.bool s) ∧ w.cell? (x.add (i * 3 + 1)) = some (.slice b n c) ∧ w.cell? (x.add (i * 3 + 2)) = some (.int .i64 e) ∧ RowIn w b n c zs

theorem RowsD.len {w : World} {a : Option Addr} {len cap : Nat} (h : RowsD w a len cap) : len ≤ 9223372036854775807 := by
  rcases h with ⟨_, rfl, _⟩ | ⟨x, _, h1, h2, _⟩
  · omega
  · unfold maxLen at h2; omega

end
end Go.Proofs.YtpnmphofengoeaaDoor
