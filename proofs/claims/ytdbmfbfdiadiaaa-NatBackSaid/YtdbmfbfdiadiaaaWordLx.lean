/-
  How many bits a word has, by math/bits.Len64.
-/
import Derived.Test.YtdbmfbfdiadiaaaWordL
import Derived.Test.YtdbmfbfdiadiaaaWordP
import Derived.Lib.ItoaNum
namespace Go.Proofs.Ytdbmfbfdiadiaaa
open Go.RowKit
set_option linter.unusedVariables false

theorem len64_any (x : Nat) (hx : x < 18446744073709551616) (w : World) :
    Calls Try.prog 59 #[.int .u64 (x : Int)] w fun e w' => e = .returned (.int .i64 ((Lib.bitLen x : Nat) : Int)) ∧ w = w' :=
  (len64_int x w (by omega) (by omega)).mono fun _ _ ⟨he, hw⟩ => ⟨he, hw⟩

theorem bl_le (x : Nat) (hx : x < 18446744073709551616) : Lib.bitLen x ≤ 64 := Lib.bitLen_le x 64 (by omega) hx

theorem bl_zero : Lib.bitLen 0 = 0 := Lib.bitLenAux_zero 64
end Go.Proofs.Ytdbmfbfdiadiaaa
