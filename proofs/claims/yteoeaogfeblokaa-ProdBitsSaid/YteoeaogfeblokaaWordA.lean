/-
  The calls of package word that stand on math/bits.Add64: what they answer.
-/
import Derived.Test.YteoeaogfeblokaaChecked
import Derived.Test.YteoeaogfeblokaaWordP
import Derived.Laws.Externs
namespace Go.Proofs.Yteoeaogfeblokaa
open Go.RowKit
set_option linter.unusedVariables false

theorem unit_any (c : Nat) (w : World) :
    Calls Try.prog 54 #[.int .u64 (c : Int)] w fun e w' => e = .returned (.int .u64 ((un c : Nat) : Int)) ∧ w = w' := by
  by_cases h : c = 0
  · subst h
    go_enter Try.func54, Try.ntmps54
    go_wp2
    go_ret
    exact ⟨rfl, rfl⟩
  · have hb : ((c : Int) != 0) = true := by rw [bne_iff_ne]; omega
    have hu : un c = 1 := by unfold un; rw [if_neg h]
    go_enter Try.func54, Try.ntmps54
    go_wp2
    go_ret
    exact ⟨by rw [hu]; rfl, rfl⟩

theorem add64_run (x y c : Nat) (hc : c ≤ 1) (w : World) :
    (callFunc 53 #[.int .u64 (x : Int), .int .u64 (y : Int), .int .u64 (c : Int)]).run Try.prog w =
      .ok (.value (.tuple #[.int .u64 (((x + y + c) % 18446744073709551616 : Nat) : Int), .int .u64 (((x + y + c) / 18446744073709551616 : Nat) : Int)])) w := by
  rw [run_callFunc_extern Try.func53 (by kernel_rfl) (by kernel_rfl) (by kernel_rfl) (e := add64Entry) (by kernel_rfl), run_add64 x y c (by omega) (by omega) (by omega) (by omega)]
  simp only [Result.andThen]
  congr 5 <;> omega

theorem add_any (a b c : Nat) (w : World) :
    Calls Try.prog 43 #[.int .u64 (a : Int), .int .u64 (b : Int), .int .u64 (c : Int)] w
      fun e w' => e = .returned (.tuple #[.int .u64 ((addS a b c : Nat) : Int), .int .u64 ((addC a b c : Nat) : Int)]) ∧ w = w' := by
  have hr : ∀ w, (callFunc 53 #[.int .u64 (a : Int), .int .u64 (b : Int), .int .u64 ((un c : Nat) : Int)]).run Try.prog w =
      .ok (.value (.tuple #[.int .u64 ((addS a b c : Nat) : Int), .int .u64 ((addC a b c : Nat) : Int)])) w := add64_run a b (un c) (un_le c)
  go_enter Try.func43, Try.ntmps43
  go_wp2_with (go_at_call 54; refine (unit_any _ _).mono ?_; rintro e w' ⟨rfl, rfl⟩)
  go_ret2
  exact ⟨rfl, rfl⟩
end Go.Proofs.Yteoeaogfeblokaa
