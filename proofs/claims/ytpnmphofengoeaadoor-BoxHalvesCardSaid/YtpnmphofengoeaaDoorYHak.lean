/-
  Contracts and words that the statement's proof rests on: Da.
-/
import Derived.Test.YtpnmphofengoeaaDoorYHai
import Derived.Test.YtpnmphofengoeaaDoorYHaj
namespace Go.Proofs.YtpnmphofengoeaaDoor
open Go.RowKit
set_option linter.unusedVariables false

def D1 (w : World) (K : Nat) (N E : Int) (e : Ending) (w' : World) : Prop := ∃ s A n c, e = .returned (.agg #[.bool s, .slice A n c, .int .i64 E]) ∧ Wn w' s A n c N ∧ n ≤ K ∧ Below w.heap.size w w'
theorem st3 {B : Nat} {a w : World} (h : Below B a w) {b : Nat} (hp : B ≤ b) (u v t : Value) : Below B a (((w.setCell ⟨b, 0, none⟩ u).setCell ⟨b, 1, none⟩ v).setCell ⟨b, 2, none⟩ t) := below_store (below_store (below_store h hp 0 u) hp 1 v) hp 2 t

end Go.Proofs.YtpnmphofengoeaaDoor
