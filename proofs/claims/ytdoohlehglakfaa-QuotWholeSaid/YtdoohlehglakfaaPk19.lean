/-
  How many bits a word has, by math/bits: Len64, LeadingZeros64.
-/
import Derived.Test.YtdoohlehglakfaaPk18
namespace Go.Proofs.Ytdoohlehglakfaa
open Go.RowKit
set_option linter.unusedVariables false

theorem lz64_any (x : Nat) (hx : x < 18446744073709551616) (w : World) :
    Calls Try.prog 39 #[.int .u64 (x : Int)] w fun e w' => e = .returned (.int .i64 (((64 - Lib.bitLen x) : Nat) : Int)) ∧ w = w' := by
  have l := bl_le x hx
  have e8 : (((64 - Lib.bitLen x) : Nat) : Int) = 64 - (Lib.bitLen x : Int) := by omega
  have E := Lib.hid e8
  clear e8
  go_enter Try.func39, Try.ntmps39
  go_wp2_with (go_at_call 35; refine (len64_any _ hx _).mono ?_; rintro e w' ⟨rfl, rfl⟩)
  go_ret
  exact ⟨int_eq E.out.symm, rfl⟩

end Go.Proofs.Ytdoohlehglakfaa
