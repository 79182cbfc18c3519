/-
 Contracts that the proof rests on.
-/
import Derived.Deep.RegionHeld3
import Derived.Test.YtomikokonmikgaaGreatDoorYBak
namespace Go.Proofs.YtomikokonmikgaaGreatDoor
open Go.RowKit
set_option linter.unusedVariables false
abbrev Bd (w:World)(g:Nat)(s:Bool)(A:Option Addr)(n c:Nat)(e:Int):Prop:=Bo w g #[.bool s,.slice A n c,.int .i64 e] 124
