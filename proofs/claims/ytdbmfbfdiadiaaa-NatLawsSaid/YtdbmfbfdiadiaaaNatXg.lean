/-
  Walks of statements of layer 4 (NatLg), at what package nat answers (NatP).
-/
import Derived.Test.YtdbmfbfdiadiaaaNatP
import Derived.Test.YtdbmfbfdiadiaaaNatLg
namespace Go.Proofs.Ytdbmfbfdiadiaaa
open Go.RowKit
set_option linter.unusedVariables false

theorem natLaws_walk (va : Value) (la : List Nat) (vb : Value) (lb : List Nat) (vc : Value) (lc : List Nat) (y : Nat) (ha : All 18446744073709551616 la) (hb : All 18446744073709551616 lb) (hc : All 18446744073709551616 lc) (hy : y < 18446744073709551616) (w : World) (ra : Rw .u64 w va la) (rb : Rw .u64 w vb lb) (rc : Rw .u64 w vc lc) :
    Calls Try.prog 8 #[.agg #[va, vb, vc, .int .u64 (y : Int)]] w fun e w' => e = .returned (.bool true) ∧ Bl w w' := natLaws_walk' pAdd pShr pCmp pScale va la vb lb vc lc y ha hb hc hy w ra rb rc
end Go.Proofs.Ytdbmfbfdiadiaaa
