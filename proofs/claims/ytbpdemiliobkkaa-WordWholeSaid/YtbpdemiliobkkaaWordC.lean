/-
  How many bits a word has: math/bits.Len64 and LeadingZeros64, word.Len, and the document's answer for it.
-/
import Derived.Test.YtbpdemiliobkkaaWordB
import Derived.Test.YtbpdemiliobkkaaWordL
import Derived.Lib.Tables
import Derived.Lib.Slices
import Derived.Lib.Walk
import Derived.Lib.ItoaNum
import Derived.LoopTactic
import Derived.Outline
namespace Go.Proofs.Ytbpdemiliobkkaa
open Go.RowKit
set_option linter.unusedVariables false

theorem len64_any (x : Nat) (hx : x < 18446744073709551616) (w : World) :
    Calls Try.prog 29 #[.int .u64 (x : Int)] w fun e w' => e = .returned (.int .i64 ((Lib.bitLen x : Nat) : Int)) ∧ w = w' :=
  (len64_int x w (by omega) (by omega)).mono fun _ _ ⟨he, hw⟩ => ⟨he, hw⟩

theorem bl_le (x : Nat) (hx : x < 18446744073709551616) : Lib.bitLen x ≤ 64 := Lib.bitLen_le x 64 (by omega) hx

theorem lz64_any (x : Nat) (hx : x < 18446744073709551616) (w : World) :
    Calls Try.prog 30 #[.int .u64 (x : Int)] w fun e w' => e = .returned (.int .i64 (((64 - Lib.bitLen x) : Nat) : Int)) ∧ w = w' := by
  have l := bl_le x hx
  have e8 : (((64 - Lib.bitLen x) : Nat) : Int) = 64 - (Lib.bitLen x : Int) := by omega
  have E := Lib.hid e8
  clear e8
  go_enter Try.func30, Try.ntmps30
  go_wp2_with (go_at_call 29; refine (len64_any _ hx _).mono ?_; rintro e w' ⟨rfl, rfl⟩)
  go_ret
  exact ⟨int_eq E.out.symm, rfl⟩

theorem len_any (x : Nat) (hx : x < 18446744073709551616) (w : World) :
    Calls Try.prog 20 #[.int .u64 (x : Int)] w fun e w' => e = .returned (.int .i64 ((Lib.bitLen x : Nat) : Int)) ∧ w = w' := by
  go_enter Try.func20, Try.ntmps20
  go_wp2_with (go_at_call 29; refine (len64_any _ hx _).mono ?_; rintro e w' ⟨rfl, rfl⟩)
  go_ret
  exact ⟨rfl, rfl⟩

/-! ### The document's answer: halved till nothing is left -/
theorem bl_zero : Lib.bitLen 0 = 0 := Lib.bitLenAux_zero 64

theorem rlen_any (x : Nat) (hx : x < 18446744073709551616) (w : World) :
    Calls Try.prog 21 #[.int .u64 (x : Int)] w fun e w' => e = .returned (.int .i64 ((Lib.bitLen x : Nat) : Int)) ∧ w = w' := by
  have lx := bl_le x hx
  go_enter Try.func21, Try.ntmps21
  go_wp2
  go_loop [0, 3] (fun s n => ∃ a k : Nat, a < 18446744073709551616 ∧ k + Lib.bitLen a = Lib.bitLen x ∧ s = .int .u64 (a : Int) ∧ n = .int .i64 (k : Int)) (fun s _ => (intOf s).toNat)
  case atStart => exact ⟨x, 0, hx, by omega, rfl, rfl⟩
  case round =>
    obtain ⟨a, k, ha, hk, rfl, rfl⟩ := hrel
    have hk' : k + Lib.bitLen a ≤ 64 := by omega
    have HK := Lib.hid hk
    clear hk
    by_cases h0 : 0 < a
    · go_wp2
      go_round
      case rel =>
        have hh := Lib.bitLen_half a (by omega) (by omega)
        exact ⟨a / 2, k + 1, by omega, by have := HK.out; omega, by go_num, by go_num⟩
      case measure => simp [intOf]; omega
    · have hz : a = 0 := by omega
      subst hz
      go_wp2
      go_ret
      exact ⟨int_eq (by have := HK.out; rw [bl_zero] at this; omega), rfl⟩
end Go.Proofs.Ytbpdemiliobkkaa
