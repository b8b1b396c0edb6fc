/-
  Walks of statements of layer 4 (NatLf), at what package nat answers (NatP).
-/
import Derived.Test.YtdbmfbfdiadiaaaNatP
import Derived.Test.YtdbmfbfdiadiaaaNatLf
namespace Go.Proofs.Ytdbmfbfdiadiaaa
open Go.RowKit
set_option linter.unusedVariables false

theorem natTells_walk (va : Value) (la : List Nat) (vb : Value) (lb : List Nat) (vc : Value) (lc : List Nat) (ha : All 18446744073709551616 la) (hb : All 18446744073709551616 lb) (hc : All 18446744073709551616 lc) (w : World) (ra : Rw .u64 w va la) (rb : Rw .u64 w vb lb) (rc : Rw .u64 w vc lc) :
    Calls Try.prog 10 #[va, vb, vc] w fun e w' => e = .returned (.bool true) ∧ Bl w w' := natTells_walk' pAdd pShr pCmp va la vb lb vc lc ha hb hc w ra rb rc
end Go.Proofs.Ytdbmfbfdiadiaaa
