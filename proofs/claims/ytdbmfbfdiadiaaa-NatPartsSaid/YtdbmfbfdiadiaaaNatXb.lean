/-
  Walks of statements of layer 4 (NatLb), at what package nat answers (NatP).
-/
import Derived.Test.YtdbmfbfdiadiaaaNatP
import Derived.Test.YtdbmfbfdiadiaaaNatLb
namespace Go.Proofs.Ytdbmfbfdiadiaaa
open Go.RowKit
set_option linter.unusedVariables false

theorem natParts_walk (va : Value) (la : List Nat) (n : Int) (ha : All 18446744073709551616 la) (hn : -9223372036854775808 ≤ n ∧ n ≤ 9223372036854775807) (w : World) (ra : Rw .u64 w va la) :
    Calls Try.prog 7 #[va, .int .i64 n] w fun e w' => e = .returned (.bool true) ∧ Bl w w' := natParts_walk' pAdd pShr pShl pLow pCmp pLen va la n ha hn w ra
theorem natBits_walk (va : Value) (la : List Nat) (n : Int) (ha : All 18446744073709551616 la) (hn : -9223372036854775808 ≤ n ∧ n ≤ 9223372036854775807) (w : World) (ra : Rw .u64 w va la) :
    Calls Try.prog 9 #[va, .int .i64 n] w fun e w' => e = .returned (.bool true) ∧ Bl w w' := natBits_walk' pAdd pShr pShl pLow pCmp pLen va la n ha hn w ra
end Go.Proofs.Ytdbmfbfdiadiaaa
