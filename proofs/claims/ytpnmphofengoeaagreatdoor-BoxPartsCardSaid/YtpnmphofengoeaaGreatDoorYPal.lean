/-
  Contracts and words that the statement's proof rests on: Wh.
-/
import Derived.Deep.RegionHeld3
import Derived.IntWalk
import Derived.Test.YtpnmphofengoeaaGreatDoorYPag
namespace Go.Proofs.YtpnmphofengoeaaGreatDoor
open Go.RowKit
set_option linter.unusedVariables false

def W3 (w : World) (K : Nat) (q r : Int) (e : Ending) (w' : World) : Prop := ∃ s1 A1 n1 c1 s2 A2 n2 c2, e = .returned (.tuple #[.agg #[.bool s1, .slice A1 n1 c1], .agg #[.bool s2, .slice A2 n2 c2], .bool true]) ∧ Wn w' s1 A1 n1 c1 q ∧ Wn w' s2 A2 n2 c2 r ∧ n1 ≤ K ∧ n2 ≤ K ∧ Below w.heap.size w w'

end Go.Proofs.YtpnmphofengoeaaGreatDoor
