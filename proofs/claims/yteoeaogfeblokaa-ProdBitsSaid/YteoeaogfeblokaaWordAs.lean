/-
  The calls of package word that stand on math/bits.Sub64: what they answer.
-/
import Derived.Test.YteoeaogfeblokaaWordA
namespace Go.Proofs.Yteoeaogfeblokaa
open Go.RowKit
set_option linter.unusedVariables false

/-- The model's own entry for math/bits.Sub64: the second of its two rows. -/
def subEntry : Array Value → Sem Value := (Extern.MathBitsCarry.rows[1]'(by decide)).2

theorem subEntry_run (x y b : Nat) (hb : b ≤ 1) (w : World) :
    (subEntry #[.int .u64 (x : Int), .int .u64 (y : Int), .int .u64 (b : Int)]).run Try.prog w =
      .ok (.tuple #[.int .u64 (((x + 18446744073709551616 - y - b) % 18446744073709551616 : Nat) : Int), .int .u64 ((if x < y + b then 1 else 0 : Nat) : Int)]) w := by
  have : b = 0 ∨ b = 1 := by omega
  rcases this with rfl | rfl <;> rfl

theorem sub64_run (x y b : Nat) (hb : b ≤ 1) (w : World) :
    (callFunc 62 #[.int .u64 (x : Int), .int .u64 (y : Int), .int .u64 (b : Int)]).run Try.prog w =
      .ok (.value (.tuple #[.int .u64 (((x + 18446744073709551616 - y - b) % 18446744073709551616 : Nat) : Int), .int .u64 ((if x < y + b then 1 else 0 : Nat) : Int)])) w := by
  rw [run_callFunc_extern Try.func62 (by kernel_rfl) (by kernel_rfl) (by kernel_rfl) (e := subEntry) (by kernel_rfl), subEntry_run x y b hb]
  rfl

theorem sub_any (a b c : Nat) (w : World) :
    Calls Try.prog 56 #[.int .u64 (a : Int), .int .u64 (b : Int), .int .u64 (c : Int)] w
      fun e w' => e = .returned (.tuple #[.int .u64 ((subD a b c : Nat) : Int), .int .u64 ((subB a b c : Nat) : Int)]) ∧ w = w' := by
  have hr : ∀ w, (callFunc 62 #[.int .u64 (a : Int), .int .u64 (b : Int), .int .u64 ((un c : Nat) : Int)]).run Try.prog w =
      .ok (.value (.tuple #[.int .u64 ((subD a b c : Nat) : Int), .int .u64 ((subB a b c : Nat) : Int)])) w := sub64_run a b (un c) (un_le c)
  go_enter Try.func56, Try.ntmps56
  go_wp2_with (go_at_call 54; refine (unit_any _ _).mono ?_; rintro e w' ⟨rfl, rfl⟩)
  go_ret2
  exact ⟨rfl, rfl⟩
end Go.Proofs.Yteoeaogfeblokaa
