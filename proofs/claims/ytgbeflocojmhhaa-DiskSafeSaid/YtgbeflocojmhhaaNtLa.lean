/-
  A row and an error, handed back; how many digits words have.
-/
import Derived.Test.YtgbeflocojmhhaaNtI
namespace Go.Proofs.Ytgbeflocojmhhaa
open Go.RowKit
set_option linter.unusedVariables false

/-- What a call answers that hands back a row and an error. -/
def RwErr (k : IntKind) (W : World) (l : List Nat) (err : Int) (e : Ending) (w : World) : Prop := ∃ v, e = .returned (.tuple #[v, .int .i64 err]) ∧ Rw k w v l ∧ Bl W w
theorem RwErr.mk {k : IntKind} {W w : World} {l : List Nat} {v : Value} {err : Int} (h : Rw k w v l) (g : Bl W w) : RwErr k W l err (.returned (.tuple #[v, .int .i64 err])) w := ⟨v, rfl, h, g⟩

theorem digs_of_words (l : List Nat) (ha : All 18446744073709551616 l) (hl : l.length < 34359738368) : (dig 65536 (val 18446744073709551616 l)).length < 137438953472 := by
  have h := val_lt 18446744073709551616 (by decide) l ha
  rw [w64_pow] at h
  have := dig_len_of_lt 65536 (by decide) _ _ h
  omega
end Go.Proofs.Ytgbeflocojmhhaa
