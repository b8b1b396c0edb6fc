/-
  Walks of statements of layer 4 (NatLa), at what package nat answers (NatP).
-/
import Derived.Test.YtdbmfbfdiadiaaaNatP
import Derived.Test.YtdbmfbfdiadiaaaNatLa
namespace Go.Proofs.Ytdbmfbfdiadiaaa
open Go.RowKit
set_option linter.unusedVariables false

theorem natBack_walk (va : Value) (la : List Nat) (vb : Value) (lb : List Nat) (ha : All 18446744073709551616 la) (hb : All 18446744073709551616 lb) (w : World) (ra : Rw .u64 w va la) (rb : Rw .u64 w vb lb) :
    Calls Try.prog 6 #[va, vb] w fun e w' => e = .returned (.bool true) ∧ Bl w w' := natBack_walk' pAdd pShr pSub pCmp va la vb lb ha hb w ra rb
end Go.Proofs.Ytdbmfbfdiadiaaa
