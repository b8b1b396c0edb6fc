/-
  The document's answer for word.Len.
-/
import Derived.Test.YtdaglbjdgdokpaaDoorWordLy
import Derived.LoopTactic
import Derived.Test.YtdaglbjdgdokpaaDoorChecked
namespace Go.Proofs.YtdaglbjdgdokpaaDoor
open Go.RowKit
set_option linter.unusedVariables false

end Go.Proofs.YtdaglbjdgdokpaaDoor
