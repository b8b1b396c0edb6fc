/-
  The calls of package word that stand on math/bits.Add64 and math/bits.Sub64, and those of the document's answer for them: what each answers, in natural numbers.
-/
import Derived.Test.YtbpdemiliobkkaaChecked
import Derived.WalkKit
import Derived.Laws.Externs
namespace Go.Proofs.Ytbpdemiliobkkaa
open Go.RowKit
set_option linter.unusedVariables false

/-- What counts as a carry: 0, or 1 for any other number. -/
def un (c : Nat) : Nat := if c = 0 then 0 else 1
theorem un_le (c : Nat) : un c ≤ 1 := by unfold un; split <;> omega

theorem ret_eq {a b : Value} (h : a = b) : Ending.returned a = .returned b := by rw [h]
theorem u64_eq {a b : Int} (h : a = b) : Value.int .u64 a = .int .u64 b := by rw [h]
theorem pair_eq {a b c d : Int} (h : a = c) (h' : b = d) : Value.tuple #[.int .u64 a, .int .u64 b] = .tuple #[.int .u64 c, .int .u64 d] := by rw [h, h']

theorem unit_any (c : Nat) (w : World) :
    Calls Try.prog 25 #[.int .u64 (c : Int)] w fun e w' => e = .returned (.int .u64 ((un c : Nat) : Int)) ∧ w = w' := by
  by_cases h : c = 0
  · subst h
    go_enter Try.func25, Try.ntmps25
    go_wp2
    go_ret
    exact ⟨rfl, rfl⟩
  · have hb : ((c : Int) != 0) = true := by rw [bne_iff_ne]; omega
    have hu : un c = 1 := by unfold un; rw [if_neg h]
    go_enter Try.func25, Try.ntmps25
    go_wp2
    go_ret
    exact ⟨by rw [hu]; rfl, rfl⟩

/-! ### The model's two calls -/
theorem add64_run (x y c : Nat) (hc : c ≤ 1) (w : World) :
    (callFunc 24 #[.int .u64 (x : Int), .int .u64 (y : Int), .int .u64 (c : Int)]).run Try.prog w =
      .ok (.value (.tuple #[.int .u64 (((x + y + c) % 18446744073709551616 : Nat) : Int), .int .u64 (((x + y + c) / 18446744073709551616 : Nat) : Int)])) w := by
  rw [run_callFunc_extern Try.func24 (by kernel_rfl) (by kernel_rfl) (by kernel_rfl) (e := add64Entry) (by kernel_rfl), run_add64 x y c (by omega) (by omega) (by omega) (by omega)]
  simp only [Result.andThen]
  congr 5 <;> omega

/-- The model's own entry for math/bits.Sub64: the second of its two rows. -/
def subEntry : Array Value → Sem Value := (Extern.MathBitsCarry.rows[1]'(by decide)).2

theorem subEntry_run (x y b : Nat) (hb : b ≤ 1) (w : World) :
    (subEntry #[.int .u64 (x : Int), .int .u64 (y : Int), .int .u64 (b : Int)]).run Try.prog w =
      .ok (.tuple #[.int .u64 (((x + 18446744073709551616 - y - b) % 18446744073709551616 : Nat) : Int), .int .u64 ((if x < y + b then 1 else 0 : Nat) : Int)]) w := by
  have : b = 0 ∨ b = 1 := by omega
  rcases this with rfl | rfl <;> rfl

theorem sub64_run (x y b : Nat) (hb : b ≤ 1) (w : World) :
    (callFunc 26 #[.int .u64 (x : Int), .int .u64 (y : Int), .int .u64 (b : Int)]).run Try.prog w =
      .ok (.value (.tuple #[.int .u64 (((x + 18446744073709551616 - y - b) % 18446744073709551616 : Nat) : Int), .int .u64 ((if x < y + b then 1 else 0 : Nat) : Int)])) w := by
  rw [run_callFunc_extern Try.func26 (by kernel_rfl) (by kernel_rfl) (by kernel_rfl) (e := subEntry) (by kernel_rfl), subEntry_run x y b hb]
  rfl

/-! ### word.Add, word.Sub -/
def addS (a b c : Nat) : Nat := (a + b + un c) % 18446744073709551616
def addC (a b c : Nat) : Nat := (a + b + un c) / 18446744073709551616
def subD (a b c : Nat) : Nat := (a + 18446744073709551616 - b - un c) % 18446744073709551616
def subB (a b c : Nat) : Nat := if a < b + un c then 1 else 0

theorem add_any (a b c : Nat) (w : World) :
    Calls Try.prog 12 #[.int .u64 (a : Int), .int .u64 (b : Int), .int .u64 (c : Int)] w
      fun e w' => e = .returned (.tuple #[.int .u64 ((addS a b c : Nat) : Int), .int .u64 ((addC a b c : Nat) : Int)]) ∧ w = w' := by
  have hr : ∀ w, (callFunc 24 #[.int .u64 (a : Int), .int .u64 (b : Int), .int .u64 ((un c : Nat) : Int)]).run Try.prog w =
      .ok (.value (.tuple #[.int .u64 ((addS a b c : Nat) : Int), .int .u64 ((addC a b c : Nat) : Int)])) w := add64_run a b (un c) (un_le c)
  go_enter Try.func12, Try.ntmps12
  go_wp2_with (go_at_call 25; refine (unit_any _ _).mono ?_; rintro e w' ⟨rfl, rfl⟩)
  go_ret2
  exact ⟨rfl, rfl⟩

theorem sub_any (a b c : Nat) (w : World) :
    Calls Try.prog 14 #[.int .u64 (a : Int), .int .u64 (b : Int), .int .u64 (c : Int)] w
      fun e w' => e = .returned (.tuple #[.int .u64 ((subD a b c : Nat) : Int), .int .u64 ((subB a b c : Nat) : Int)]) ∧ w = w' := by
  have hr : ∀ w, (callFunc 26 #[.int .u64 (a : Int), .int .u64 (b : Int), .int .u64 ((un c : Nat) : Int)]).run Try.prog w =
      .ok (.value (.tuple #[.int .u64 ((subD a b c : Nat) : Int), .int .u64 ((subB a b c : Nat) : Int)])) w := sub64_run a b (un c) (un_le c)
  go_enter Try.func14, Try.ntmps14
  go_wp2_with (go_at_call 25; refine (unit_any _ _).mono ?_; rintro e w' ⟨rfl, rfl⟩)
  go_ret2
  exact ⟨rfl, rfl⟩
end Go.Proofs.Ytbpdemiliobkkaa
