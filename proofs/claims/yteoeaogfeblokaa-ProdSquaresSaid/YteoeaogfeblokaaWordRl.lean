/-
  The document's answer for word.Len.
-/
import Derived.Test.YteoeaogfeblokaaWordLy
import Derived.LoopTactic
import Derived.Test.YteoeaogfeblokaaChecked
namespace Go.Proofs.Yteoeaogfeblokaa
open Go.RowKit
set_option linter.unusedVariables false

theorem rlen_any (x : Nat) (hx : x < 18446744073709551616) (w : World) :
    Calls Try.prog 25 #[.int .u64 (x : Int)] w fun e w' => e = .returned (.int .i64 ((Lib.bitLen x : Nat) : Int)) ∧ w = w' := by
  have lx := bl_le x hx
  go_enter Try.func25, Try.ntmps25
  go_wp2
  go_loop [0, 3] (fun s n => ∃ a k : Nat, a < 18446744073709551616 ∧ k + Lib.bitLen a = Lib.bitLen x ∧ s = .int .u64 (a : Int) ∧ n = .int .i64 (k : Int)) (fun s _ => (intOf s).toNat)
  case atStart => exact ⟨x, 0, hx, by omega, rfl, rfl⟩
  case round =>
    obtain ⟨a, k, ha, hk, rfl, rfl⟩ := hrel
    have hk' : k + Lib.bitLen a ≤ 64 := by omega
    have HK := Lib.hid hk
    clear hk
    by_cases h0 : 0 < a
    · go_wp2
      go_round
      case rel =>
        have hh := Lib.bitLen_half a (by omega) (by omega)
        exact ⟨a / 2, k + 1, by omega, by have := HK.out; omega, by go_num, by go_num⟩
      case measure => simp [intOf]; omega
    · have hz : a = 0 := by omega
      subst hz
      go_wp2
      go_ret
      exact ⟨int_eq (by have := HK.out; rw [bl_zero] at this; omega), rfl⟩
end Go.Proofs.Yteoeaogfeblokaa
