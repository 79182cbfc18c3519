/-
  Contracts and words that the statement's proof rests on, several texts in one: Sa.
-/
import Derived.BigCall
import Derived.BigGuard
import Derived.Lib.AppendIntMem
import Derived.Lib.AtoiErrMem
import Derived.Lib.ItoaMem
import Derived.Lib.Repeat
import Derived.Test.YtpmakljahhhnfaaDoorYBac
import Derived.Test.YtpmakljahhhnfaaDoorYBah
/-
  What the library calls that decimal makes do, over lists of bytes: CutPrefix, TrimLeft, Repeat, Itoa, Atoi, FormatUint. No walk but FormatUint's.
-/
namespace Go.Proofs.YtpmakljahhhnfaaDoor
open Go.RowKit
set_option linter.unusedVariables false
set_option maxRecDepth 100000

/-- A text, as the list of its bytes. -/
abbrev st (l : List UInt8) : ByteArray := ⟨l.toArray⟩
end Go.Proofs.YtpmakljahhhnfaaDoor
