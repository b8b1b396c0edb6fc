/-
  Package nat: place, the carriers raise and times, cmp.Compare, the makers of words and chain. · Package nat: the closure that keeps the carry.
-/
import Derived.Test.YtpdglbfnmilblaaPk17
import Derived.Test.YtpdglbfnmilblaaWordN
namespace Go.Proofs.Ytpdglbfnmilblaa
open Go.RowKit
set_option linter.unusedVariables false

/-! ### The carriers -/
def raF (a b c : Nat) : Nat := a * 2 ^ b % 18446744073709551616 ||| c
def raG (a b c : Nat) : Nat := a / 2 ^ (64 - b)
theorem raF_lt (a b c : Nat) (hc : c < 18446744073709551616) : raF a b c < 18446744073709551616 := by
  have e : (18446744073709551616 : Nat) = 2 ^ 64 := by decide
  unfold raF
  rw [e]
  exact Nat.or_lt_two_pow (Nat.mod_lt _ (Nat.two_pow_pos 64)) (by rw [← e]; exact hc)
theorem raG_lt (a b c : Nat) (ha : a < 18446744073709551616) : raG a b c < 18446744073709551616 := Nat.lt_of_le_of_lt (Nat.div_le_self _ _) ha
theorem raise_word (a b c : Nat) (hc : c < 18446744073709551616) : bits .or .u64 (IntKind.u64.wrap ((a : Int) * 2 ^ b)) (c : Int) = ((raF a b c : Nat) : Int) := by
  rw [pow_cast, ← Int.natCast_mul, wrapM]
  exact bits_or_u64_nat _ _ (Nat.mod_lt _ (by decide)) hc
theorem raise_more (a b c : Nat) : (a : Int) / 2 ^ (64 - b) = ((raG a b c : Nat) : Int) := by
  rw [pow_cast, ← Int.natCast_ediv]
  rfl
def tiF (a b c : Nat) : Nat := (a * b + c) % 18446744073709551616
def tiG (a b c : Nat) : Nat := (a * b + c) / 18446744073709551616
theorem tiF_lt (a b c : Nat) : tiF a b c < 18446744073709551616 := Nat.mod_lt _ (by decide)
theorem tiG_lt (a b c : Nat) (ha : a < 18446744073709551616) (hb : b < 18446744073709551616) (hc : c < 18446744073709551616) : tiG a b c < 18446744073709551616 := by
  unfold tiG
  rw [Nat.div_lt_iff_lt_mul (by decide)]
  have h1 : a * b ≤ 18446744073709551615 * 18446744073709551615 := Nat.mul_le_mul (by omega) (by omega)
  omega
/-! ### Compare -/
/-! ### The makers -/
end Go.Proofs.Ytpdglbfnmilblaa
namespace Go.Proofs.Ytpdglbfnmilblaa
open Go.RowKit
set_option linter.unusedVariables false

end Go.Proofs.Ytpdglbfnmilblaa
