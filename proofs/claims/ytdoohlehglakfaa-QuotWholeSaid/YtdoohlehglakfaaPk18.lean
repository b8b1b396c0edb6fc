/-
  How many bits a word has, by math/bits.Len64.
-/
import Derived.Test.YtdoohlehglakfaaWordL
import Derived.Test.YtdoohlehglakfaaWordP
import Derived.Test.YtdoohlehglakfaaPk3
namespace Go.Proofs.Ytdoohlehglakfaa
open Go.RowKit
set_option linter.unusedVariables false

theorem len64_any (x : Nat) (hx : x < 18446744073709551616) (w : World) :
    Calls Try.prog 35 #[.int .u64 (x : Int)] w fun e w' => e = .returned (.int .i64 ((Lib.bitLen x : Nat) : Int)) ∧ w = w' :=
  (len64_int x w (by omega) (by omega)).mono fun _ _ ⟨he, hw⟩ => ⟨he, hw⟩
end Go.Proofs.Ytdoohlehglakfaa
