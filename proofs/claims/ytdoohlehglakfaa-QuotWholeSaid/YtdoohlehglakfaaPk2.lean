/-
  The calls of package word that stand on math/bits.Add64: what they answer. · The calls of package word that stand on math/bits.Sub64: what they answer. · word.Mul, and math/bits.Mul64 under it: what they answer.
-/
import Derived.Test.YtdoohlehglakfaaChecked
import Derived.Test.YtdoohlehglakfaaWordP
import Derived.Laws.Externs
import Derived.Lib.Mul64
namespace Go.Proofs.Ytdoohlehglakfaa
open Go.RowKit
set_option linter.unusedVariables false

theorem unit_any (c : Nat) (w : World) :
    Calls Try.prog 32 #[.int .u64 (c : Int)] w fun e w' => e = .returned (.int .u64 ((un c : Nat) : Int)) ∧ w = w' := by
  by_cases h : c = 0
  · subst h
    go_enter Try.func32, Try.ntmps32
    go_wp2
    go_ret
    exact ⟨rfl, rfl⟩
  · have hb : ((c : Int) != 0) = true := by rw [bne_iff_ne]; omega
    have hu : un c = 1 := by unfold un; rw [if_neg h]
    go_enter Try.func32, Try.ntmps32
    go_wp2
    go_ret
    exact ⟨by rw [hu]; rfl, rfl⟩

theorem add64_run (x y c : Nat) (hc : c ≤ 1) (w : World) :
    (callFunc 38 #[.int .u64 (x : Int), .int .u64 (y : Int), .int .u64 (c : Int)]).run Try.prog w =
      .ok (.value (.tuple #[.int .u64 (((x + y + c) % 18446744073709551616 : Nat) : Int), .int .u64 (((x + y + c) / 18446744073709551616 : Nat) : Int)])) w := by
  rw [run_callFunc_extern Try.func38 (by kernel_rfl) (by kernel_rfl) (by kernel_rfl) (e := add64Entry) (by kernel_rfl), run_add64 x y c (by omega) (by omega) (by omega) (by omega)]
  simp only [Result.andThen]
  congr 5 <;> omega

theorem add_any (a b c : Nat) (w : World) :
    Calls Try.prog 34 #[.int .u64 (a : Int), .int .u64 (b : Int), .int .u64 (c : Int)] w
      fun e w' => e = .returned (.tuple #[.int .u64 ((addS a b c : Nat) : Int), .int .u64 ((addC a b c : Nat) : Int)]) ∧ w = w' := by
  have hr : ∀ w, (callFunc 38 #[.int .u64 (a : Int), .int .u64 (b : Int), .int .u64 ((un c : Nat) : Int)]).run Try.prog w =
      .ok (.value (.tuple #[.int .u64 ((addS a b c : Nat) : Int), .int .u64 ((addC a b c : Nat) : Int)])) w := add64_run a b (un c) (un_le c)
  go_enter Try.func34, Try.ntmps34
  go_wp2_with (go_at_call 32; refine (unit_any _ _).mono ?_; rintro e w' ⟨rfl, rfl⟩)
  go_ret2
  exact ⟨rfl, rfl⟩
end Go.Proofs.Ytdoohlehglakfaa
namespace Go.Proofs.Ytdoohlehglakfaa
open Go.RowKit
set_option linter.unusedVariables false

/-- The model's own entry for math/bits.Sub64: the second of its two rows. -/
def subEntry : Array Value → Sem Value := (Extern.MathBitsCarry.rows[1]'(by decide)).2

theorem subEntry_run (x y b : Nat) (hb : b ≤ 1) (w : World) :
    (subEntry #[.int .u64 (x : Int), .int .u64 (y : Int), .int .u64 (b : Int)]).run Try.prog w =
      .ok (.tuple #[.int .u64 (((x + 18446744073709551616 - y - b) % 18446744073709551616 : Nat) : Int), .int .u64 ((if x < y + b then 1 else 0 : Nat) : Int)]) w := by
  have : b = 0 ∨ b = 1 := by omega
  rcases this with rfl | rfl <;> rfl

theorem sub64_run (x y b : Nat) (hb : b ≤ 1) (w : World) :
    (callFunc 31 #[.int .u64 (x : Int), .int .u64 (y : Int), .int .u64 (b : Int)]).run Try.prog w =
      .ok (.value (.tuple #[.int .u64 (((x + 18446744073709551616 - y - b) % 18446744073709551616 : Nat) : Int), .int .u64 ((if x < y + b then 1 else 0 : Nat) : Int)])) w := by
  rw [run_callFunc_extern Try.func31 (by kernel_rfl) (by kernel_rfl) (by kernel_rfl) (e := subEntry) (by kernel_rfl), subEntry_run x y b hb]
  rfl

theorem sub_any (a b c : Nat) (w : World) :
    Calls Try.prog 24 #[.int .u64 (a : Int), .int .u64 (b : Int), .int .u64 (c : Int)] w
      fun e w' => e = .returned (.tuple #[.int .u64 ((subD a b c : Nat) : Int), .int .u64 ((subB a b c : Nat) : Int)]) ∧ w = w' := by
  have hr : ∀ w, (callFunc 31 #[.int .u64 (a : Int), .int .u64 (b : Int), .int .u64 ((un c : Nat) : Int)]).run Try.prog w =
      .ok (.value (.tuple #[.int .u64 ((subD a b c : Nat) : Int), .int .u64 ((subB a b c : Nat) : Int)])) w := sub64_run a b (un c) (un_le c)
  go_enter Try.func24, Try.ntmps24
  go_wp2_with (go_at_call 32; refine (unit_any _ _).mono ?_; rintro e w' ⟨rfl, rfl⟩)
  go_ret2
  exact ⟨rfl, rfl⟩
end Go.Proofs.Ytdoohlehglakfaa
namespace Go.Proofs.Ytdoohlehglakfaa
open Go.RowKit
set_option linter.unusedVariables false

set_option maxHeartbeats 1000000 in
theorem mul64_any (x y : Nat) (hx : x < 18446744073709551616) (hy : y < 18446744073709551616) (w : World) :
    Calls Try.prog 37 #[.int .u64 (x : Int), .int .u64 (y : Int)] w
      fun e w' => e = .returned (.tuple #[.int .u64 ((mulH x y : Nat) : Int), .int .u64 ((mulL x y : Nat) : Int)]) ∧ w = w' := by
  obtain ⟨bd, bt, bw, hhi⟩ := Lib.mul64_hi x y hx hy
  have ba := Lib.half_mul_le (a := x / 4294967296) (b := y / 4294967296) (by omega) (by omega)
  have bb := Lib.half_mul_le (a := x / 4294967296) (b := y % 4294967296) (by omega) (by omega)
  have bc := Lib.half_mul_le (a := x % 4294967296) (b := y / 4294967296) (by omega) (by omega)
  have ba' : x / 4294967296 * (y / 4294967296) < 18446744073709551616 := by omega
  have bb' : x / 4294967296 * (y % 4294967296) < 18446744073709551616 := by omega
  have bc' : x % 4294967296 * (y / 4294967296) < 18446744073709551616 := by omega
  have bh1 : x / 4294967296 * (y / 4294967296) + (x / 4294967296 * (y % 4294967296) + x % 4294967296 * (y % 4294967296) / 4294967296) / 4294967296 < 18446744073709551616 := by omega
  have bh : x / 4294967296 * (y / 4294967296) + (x / 4294967296 * (y % 4294967296) + x % 4294967296 * (y % 4294967296) / 4294967296) / 4294967296 + ((x / 4294967296 * (y % 4294967296) + x % 4294967296 * (y % 4294967296) / 4294967296) % 4294967296 + x % 4294967296 * (y / 4294967296)) / 4294967296 < 18446744073709551616 := by omega
  have HH := Lib.hid hhi
  clear hhi
  go_enter Try.func37, Try.ntmps37
  go_wp2
  simp only [maskN x hx, maskN y hy, divN, mulN, addN, wrapN _ bd, wrapN _ bb', wrapN _ bt, maskN _ bt, wrapN _ bc', wrapN _ bw, wrapN _ ba', wrapN _ bh1, wrapN _ bh, wrapM (x * y)]
  rw [HH.out]
  go_ret2
  exact ⟨rfl, rfl⟩

theorem mul_any (x y : Nat) (hx : x < 18446744073709551616) (hy : y < 18446744073709551616) (w : World) :
    Calls Try.prog 33 #[.int .u64 (x : Int), .int .u64 (y : Int)] w
      fun e w' => e = .returned (.tuple #[.int .u64 ((mulH x y : Nat) : Int), .int .u64 ((mulL x y : Nat) : Int)]) ∧ w = w' := by
  go_enter Try.func33, Try.ntmps33
  go_wp2_with (go_at_call 37; refine (mul64_any _ _ hx hy _).mono ?_; rintro e w' ⟨rfl, rfl⟩)
  go_ret2
  exact ⟨rfl, rfl⟩
end Go.Proofs.Ytdoohlehglakfaa
