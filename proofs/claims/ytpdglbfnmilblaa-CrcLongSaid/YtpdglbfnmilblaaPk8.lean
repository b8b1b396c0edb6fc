/-
  The document's example of layer 14 (printed by gen/cst.py)
-/
import Derived.Test.YtpdglbfnmilblaaPk7
namespace Go.Proofs.Ytpdglbfnmilblaa
open Go.RowKit
set_option linter.unusedVariables false
set_option linter.unusedSimpArgs false

theorem shown_sum : crSum [49, 50, 51, 52, 53, 54, 55, 56, 57] = 3421780262 := by decide +kernel
theorem shown14_any (w : World) : Calls Try.prog 5 #[] w fun e w' => e = .returned (.bool true) ∧ w = w' := by
  have K : Hid (Calls Try.prog 6 #[.string { data := #[49, 50, 51, 52, 53, 54, 55, 56, 57] }] w fun e w' => e = .returned (.int .u32 3421780262) ∧ w = w') := by
    have c := psum_any [49, 50, 51, 52, 53, 54, 55, 56, 57] (by unfold All; decide) (by decide) w
    rw [shown_sum] at c
    exact c
  go_enter Try.func5, Try.ntmps5
  go_wp2_with (go_at_call 6; (with_reducible refine K.out.mono ?_); rintro e w' ⟨rfl, rfl⟩)
  go_ret
  exact ⟨rfl, rfl⟩
end Go.Proofs.Ytpdglbfnmilblaa
