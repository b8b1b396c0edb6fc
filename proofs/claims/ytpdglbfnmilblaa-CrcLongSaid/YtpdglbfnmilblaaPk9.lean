/-
  The calls of package word that stand on math/bits.Add64: what they answer. · The calls of package word that stand on math/bits.Sub64: what they answer. · word.Mul, and math/bits.Mul64 under it: what they answer.
-/
import Derived.Test.YtpdglbfnmilblaaChecked
import Derived.Test.YtpdglbfnmilblaaWordP
import Derived.Laws.Externs
import Derived.Lib.Mul64
namespace Go.Proofs.Ytpdglbfnmilblaa
open Go.RowKit
set_option linter.unusedVariables false

end Go.Proofs.Ytpdglbfnmilblaa
namespace Go.Proofs.Ytpdglbfnmilblaa
open Go.RowKit
set_option linter.unusedVariables false

/-- The model's own entry for math/bits.Sub64: the second of its two rows. -/
def subEntry : Array Value → Sem Value := (Extern.MathBitsCarry.rows[1]'(by decide)).2

theorem subEntry_run (x y b : Nat) (hb : b ≤ 1) (w : World) :
    (subEntry #[.int .u64 (x : Int), .int .u64 (y : Int), .int .u64 (b : Int)]).run Try.prog w =
      .ok (.tuple #[.int .u64 (((x + 18446744073709551616 - y - b) % 18446744073709551616 : Nat) : Int), .int .u64 ((if x < y + b then 1 else 0 : Nat) : Int)]) w := by
  have : b = 0 ∨ b = 1 := by omega
  rcases this with rfl | rfl <;> rfl

end Go.Proofs.Ytpdglbfnmilblaa
namespace Go.Proofs.Ytpdglbfnmilblaa
open Go.RowKit
set_option linter.unusedVariables false

end Go.Proofs.Ytpdglbfnmilblaa
