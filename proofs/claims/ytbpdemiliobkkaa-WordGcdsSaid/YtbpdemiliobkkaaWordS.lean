/-
  The document's examples, which stand at the head of each statement of the first layer: they are as it says.
-/
import Derived.Test.YtbpdemiliobkkaaWordE
namespace Go.Proofs.Ytbpdemiliobkkaa
open Go.RowKit
set_option linter.unusedVariables false

theorem mul_shown (w : World) : Calls Try.prog 16 #[.int .u64 9223372036854775808, .int .u64 6] w
    fun e w' => e = .returned (.tuple #[.int .u64 3, .int .u64 0]) ∧ w = w' := by
  have h := mul_any 9223372036854775808 6 (by omega) (by omega) w
  have e1 : mulH 9223372036854775808 6 = 3 := by decide +kernel
  have e2 : mulL 9223372036854775808 6 = 0 := by decide +kernel
  rw [e1, e2] at h
  exact h

theorem div_shown (w : World) : Calls Try.prog 18 #[.int .u64 1, .int .u64 0, .int .u64 2] w
    fun e w' => e = .returned (.tuple #[.int .u64 9223372036854775808, .int .u64 0, .int .i64 0]) ∧ Q w w' := by
  have h := div_any 1 0 2 (by omega) (by omega) (by omega) w
  have e1 : divQ 1 0 2 = 9223372036854775808 := by decide +kernel
  have e2 : divR 1 0 2 = 0 := by decide +kernel
  have e3 : divE 1 2 = 0 := by decide +kernel
  rw [e1, e2, e3] at h
  exact h

set_option maxRecDepth 100000 in
theorem shown_any (w : World) : Calls Try.prog 11 #[] w fun e w' => e = .returned (.bool true) ∧ Q w w' := by
  go_enter Try.func11, Try.ntmps11
  go_wp2_with (first
    | (go_at_call 16; refine (mul_shown _).mono ?_; rintro e w' ⟨rfl, rfl⟩)
    | (go_at_call 18; refine (div_shown _).mono ?_; rintro e w' ⟨rfl, hq⟩))
  go_ret
  exact ⟨rfl, hq⟩
end Go.Proofs.Ytbpdemiliobkkaa
