/-
  How many bits a word has at most. No walk.
-/
import Derived.Test.YtdaglbjdgdokpaaDoorWordP
import Derived.Lib.ItoaNum
namespace Go.Proofs.YtdaglbjdgdokpaaDoor
open Go.RowKit
set_option linter.unusedVariables false

theorem bl_le (x : Nat) (hx : x < 18446744073709551616) : Lib.bitLen x ≤ 64 := Lib.bitLen_le x 64 (by omega) hx

theorem bl_zero : Lib.bitLen 0 = 0 := Lib.bitLenAux_zero 64
end Go.Proofs.YtdaglbjdgdokpaaDoor
