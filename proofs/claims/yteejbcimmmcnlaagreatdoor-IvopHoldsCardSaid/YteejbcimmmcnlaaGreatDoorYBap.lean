/-
  Contracts and words that the statement's proof rests on, several texts in one: Db.
-/
import Derived.Deep.RegionHeld3
import Derived.Test.YteejbcimmmcnlaaGreatDoorYBan
/-
  What pelorusref03.Make does, for every exponent; Alike, Sign, Neg and Move.
-/
namespace Go.Proofs.YteejbcimmmcnlaaGreatDoor
open Go.RowKit
set_option linter.unusedVariables false

/-- Block g is one number times a power of two. -/
abbrev Bd (w : World) (g : Nat) (s : Bool) (A : Option Addr) (n c : Nat) (e : Int) : Prop := Bo w g #[.bool s, .slice A n c, .int .i64 e] 42

end Go.Proofs.YteejbcimmmcnlaaGreatDoor
