/-
  The document's answer for word.Len.
-/
import Derived.Test.YtpdglbfnmilblaaWordLy
import Derived.LoopTactic
import Derived.Test.YtpdglbfnmilblaaChecked
namespace Go.Proofs.Ytpdglbfnmilblaa
open Go.RowKit
set_option linter.unusedVariables false

end Go.Proofs.Ytpdglbfnmilblaa
