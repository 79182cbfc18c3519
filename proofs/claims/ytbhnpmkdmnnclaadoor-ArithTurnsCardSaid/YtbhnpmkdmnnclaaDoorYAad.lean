/-
  Contracts and words that the statement's proof rests on, several texts in one: Cut.
-/
import Derived.BigQuiet
import Derived.Deep.QuietTactic
import Derived.Test.YtbhnpmkdmnnclaaDoorRows
import Derived.WalkKit
import Derived.WalkLawsBesides
import Derived.WalkSpells
import Derived.Test.YtbhnpmkdmnnclaaDoorYAac
/-
  What nat.cut and nat.Trim do, for every slice of limbs.
-/
namespace Go.Proofs.YtbhnpmkdmnnclaaDoor
open Go.RowKit
set_option linter.unusedVariables false

theorem alloc_below (W : World) (o : Obj) : Below W.heap.size W (W.alloc o) := (Below.refl _ _).alloc (Nat.le_refl _) _

/-- What a call answers, if it answers a list of limbs in memory of its own. -/
def Made (w w' : World) (l : List Nat) (g : Nat) (A : Option Addr) (c : Nat) : Prop :=
  Sl w' g A l.length c l ∧ (0 < l.length → w.heap.size ≤ g ∧ A = some ⟨g, 0, none⟩ ∧ Own w' g l)
end Go.Proofs.YtbhnpmkdmnnclaaDoor
