/-
  Contracts and words that the statement's proof rests on, several texts in one: Ti.
-/
import Derived.Below
import Derived.BigCall
import Derived.BigGuard
import Derived.BigQuiet
import Derived.Carry
import Derived.Deep.DeepCutAuto
import Derived.Deep.Draws
import Derived.Deep.MidRow
import Derived.Deep.QuietTactic
import Derived.Deep.RegionHeld3
import Derived.Deep.RegionWith
import Derived.IntWalk
import Derived.Laws.CopyOwn
import Derived.Laws.MakeOwn
import Derived.Laws.OwnMore
import Derived.Laws.Rows
import Derived.Lib.AppendIntMem
import Derived.Lib.Atoi
import Derived.Lib.AtoiErrMem
import Derived.Lib.BitFns
import Derived.Lib.FrozenHead2
import Derived.Lib.Hide
import Derived.Lib.ItoaMem
import Derived.Lib.ItoaNum
import Derived.Lib.OthersKept
import Derived.Lib.Repeat
import Derived.Lib.Strings
import Derived.Lib.TrimByte
import Derived.Lib.UnsafeStr
import Derived.Maps.AppendAt
import Derived.RegionTactic
import Derived.StillTailTactics
import Derived.Test.YtpmakljahhhnfaaDoorRows
import Derived.WalkKit
import Derived.WalkLawsBesides
import Derived.WalkSpells
import Derived.Test.YtpmakljahhhnfaaDoorYBac
import Derived.Test.YtpmakljahhhnfaaDoorYBaj
import Derived.Test.YtpmakljahhhnfaaDoorYBav
import Derived.Test.YtpmakljahhhnfaaDoorYBax
import Derived.Test.YtpmakljahhhnfaaDoorYBaz
import Derived.Test.YtpmakljahhhnfaaDoorYBbb
/-
  What decimal.Show answers.
-/
namespace Go.Proofs.YtpmakljahhhnfaaDoor
open Go.RowKit
set_option linter.unusedVariables false
set_option linter.unusedSimpArgs false
set_option maxRecDepth 100000

theorem vMayE {w : World} {A : Option Addr} {n c a : Nat} {s : Bool} {t : Int} {r : Bool} (h : Rd w A n c a) (hn : n ≤ 1000) (hr : mayC s n a t = r) : Calls Tryd.prog 16 #[.agg #[.bool s, .slice A n c, .int .i64 t]] w (PB w r) := vMayD h (by omega) hr

end Go.Proofs.YtpmakljahhhnfaaDoor
