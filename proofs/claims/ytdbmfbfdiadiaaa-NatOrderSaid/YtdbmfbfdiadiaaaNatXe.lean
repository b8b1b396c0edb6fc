/-
  Walks of statements of layer 4 (NatLe), at what package nat answers (NatP).
-/
import Derived.Test.YtdbmfbfdiadiaaaNatP
import Derived.Test.YtdbmfbfdiadiaaaNatLe
namespace Go.Proofs.Ytdbmfbfdiadiaaa
open Go.RowKit
set_option linter.unusedVariables false

theorem natOrder_walk (va : Value) (la : List Nat) (vb : Value) (lb : List Nat) (n : Int) (y : Nat) (ha : All 18446744073709551616 la) (hb : All 18446744073709551616 lb) (hn : -9223372036854775808 ≤ n ∧ n ≤ 9223372036854775807) (hy : y < 18446744073709551616) (w : World) (ra : Rw .u64 w va la) (rb : Rw .u64 w vb lb) :
    Calls Try.prog 5 #[.agg #[va, vb, .int .i64 n, .int .u64 (y : Int)]] w fun e w' => e = .returned (.bool true) ∧ Bl w w' := natOrder_walk' pAdd pShr pShl pLow pSub pNorm pScale va la vb lb n y ha hb hn hy w ra rb
end Go.Proofs.Ytdbmfbfdiadiaaa
