/-
  Contracts and words that the statement's proof rests on, several texts in one: Ti.
-/
import Derived.Below
import Derived.BigCall
import Derived.BigGuard
import Derived.BigQuiet
import Derived.Carry
import Derived.Deep.Draws
import Derived.Deep.MidRow
import Derived.Deep.QuietTactic
import Derived.Deep.RegionWith
import Derived.Laws.CopyOwn
import Derived.Laws.MakeOwn
import Derived.Laws.OwnMore
import Derived.Laws.Rows
import Derived.Lib.AppendIntMem
import Derived.Lib.Atoi
import Derived.Lib.AtoiErrMem
import Derived.Lib.BitFns
import Derived.Lib.Hide
import Derived.Lib.ItoaMem
import Derived.Lib.ItoaNum
import Derived.Lib.Repeat
import Derived.Lib.Strings
import Derived.Lib.TrimByte
import Derived.Test.YtpmakljahhhnfaaGreatDoorRows
import Derived.WalkKit
import Derived.WalkLawsBesides
import Derived.WalkSpells
import Derived.Test.YtpmakljahhhnfaaGreatDoorYAac
import Derived.Test.YtpmakljahhhnfaaGreatDoorYAba
import Derived.Test.YtpmakljahhhnfaaGreatDoorYAbc
import Derived.Test.YtpmakljahhhnfaaGreatDoorYAbe
import Derived.Test.YtpmakljahhhnfaaGreatDoorYAbh
/-
  What decimal.Show answers.
-/
namespace Go.Proofs.YtpmakljahhhnfaaGreatDoor
open Go.RowKit
set_option linter.unusedVariables false
set_option linter.unusedSimpArgs false
set_option maxRecDepth 100000

theorem vMayE {w : World} {A : Option Addr} {n c a : Nat} {s : Bool} {t : Int} {r : Bool} (h : Rd w A n c a) (hn : n ≤ 1000) (hr : mayC s n a t = r) : Calls Tryz.prog 37 #[.agg #[.bool s, .slice A n c, .int .i64 t]] w (PB w r) := vMayD h (by omega) hr

end Go.Proofs.YtpmakljahhhnfaaGreatDoor
