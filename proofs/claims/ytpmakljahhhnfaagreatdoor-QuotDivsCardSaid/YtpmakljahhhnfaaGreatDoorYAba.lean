/-
  Contracts and words that the statement's proof rests on, several texts in one: Sa.
-/
import Derived.BigCall
import Derived.BigGuard
import Derived.Lib.AppendIntMem
import Derived.Lib.AtoiErrMem
import Derived.Lib.ItoaMem
import Derived.Lib.Repeat
import Derived.Test.YtpmakljahhhnfaaGreatDoorYAac
import Derived.Test.YtpmakljahhhnfaaGreatDoorYAah
/-
  What the library calls that decimal makes do, over lists of bytes: CutPrefix, TrimLeft, Repeat, Itoa, Atoi, FormatUint. No walk but FormatUint's.
-/
namespace Go.Proofs.YtpmakljahhhnfaaGreatDoor
open Go.RowKit
set_option linter.unusedVariables false
set_option maxRecDepth 100000

/-- A text, as the list of its bytes. -/
abbrev st (l : List UInt8) : ByteArray := ⟨l.toArray⟩
theorem st_size (l : List UInt8) : (st l).size = l.length := by simp [ByteArray.size]
/-- What is answered is just that text. -/
def PS (w : World) (l : List UInt8) (e : Ending) (w' : World) : Prop := e = .returned (.string (st l)) ∧ Below w.heap.size w w'

end Go.Proofs.YtpmakljahhhnfaaGreatDoor
