/-
  Contracts and words that the statement's proof rests on, several texts in one: Lw.
-/
import Derived.Below
import Derived.BigQuiet
import Derived.Carry
import Derived.Deep.Draws
import Derived.Deep.MidRow
import Derived.Deep.QuietTactic
import Derived.Deep.RegionHeld3
import Derived.Deep.RegionWith
import Derived.IntWalk
import Derived.Laws.CopyOwn
import Derived.Laws.MakeOwn
import Derived.Laws.OwnMore
import Derived.Laws.Rows
import Derived.Lib.BitFns
import Derived.Lib.Hide
import Derived.Test.YtbhnpmkdmnnclaaDoorRows
import Derived.WalkKit
import Derived.WalkLawsBesides
import Derived.WalkSpells
import Derived.Test.YtbhnpmkdmnnclaaDoorYBag
import Derived.Test.YtbhnpmkdmnnclaaDoorYBai
/-
  What every statement of layer 2 begins with: the chapter's examples, and the test of lengths.
-/
namespace Go.Proofs.YtbhnpmkdmnnclaaDoor
open Go.RowKit
set_option linter.unusedVariables false

theorem Wl.drew {w : World} {A : Option Addr} {n c K : Nat} {zs : List Int} (h : Wl w A n c K zs) : Wl w.drew A n c K zs := h
end Go.Proofs.YtbhnpmkdmnnclaaDoor
