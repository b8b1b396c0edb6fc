/-
  Walks of statements of layer 4 (NatLd), at what package nat answers (NatP).
-/
import Derived.Test.YtdbmfbfdiadiaaaNatP
import Derived.Test.YtdbmfbfdiadiaaaNatLd
namespace Go.Proofs.Ytdbmfbfdiadiaaa
open Go.RowKit
set_option linter.unusedVariables false

theorem natReckons_walk (va : Value) (la : List Nat) (vb : Value) (lb : List Nat) (y : Nat) (ha : All 18446744073709551616 la) (hb : All 18446744073709551616 lb) (hy : y < 18446744073709551616) (w : World) (ra : Rw .u64 w va la) (rb : Rw .u64 w vb lb) :
    Calls Try.prog 3 #[va, vb, .int .u64 (y : Int)] w fun e w' => e = .returned (.bool true) ∧ Bl w w' := natReckons_walk' pAdd pShr pSub pNorm pScale pCmp pLen va la vb lb y ha hb hy w ra rb
end Go.Proofs.Ytdbmfbfdiadiaaa
