/-
  The document's answer for word.Len.
-/
import Derived.Test.YtgbeflocojmhhaaWordLy
import Derived.LoopTactic
import Derived.Test.YtgbeflocojmhhaaChecked
namespace Go.Proofs.Ytgbeflocojmhhaa
open Go.RowKit
set_option linter.unusedVariables false

end Go.Proofs.Ytgbeflocojmhhaa
