/-
  The document's rows of digits (layer 4): Power, Less. · A row and an error, handed back; how many digits words have.
-/
import Derived.Test.YtpdglbfnmilblaaPk12
import Derived.Test.YtpdglbfnmilblaaPk13
namespace Go.Proofs.Ytpdglbfnmilblaa
open Go.RowKit
set_option linter.unusedVariables false

theorem power_row (n : Nat) : (List.replicate (n / 16 + 1) 0).set (n / 16) (2 ^ (n % 16)) = dig 65536 (2 ^ n) := by
  have hp : 2 ^ (n % 16) < 65536 := by
    have : 2 ^ (n % 16) ≤ 2 ^ 15 := Nat.pow_le_pow_right (by decide) (by omega)
    omega
  have ha : All 65536 ((List.replicate (n / 16 + 1) 0).set (n / 16) (2 ^ (n % 16))) := all_set (all_zeros _ _ (by decide)) _ _ hp
  have hv := val_set 65536 (List.replicate (n / 16 + 1) 0) (n / 16) (2 ^ (n % 16)) (by simp)
  rw [val_zeros, List.getElem_replicate, Nat.mul_zero, Nat.add_zero, Nat.zero_add, two_pow16, ← Nat.pow_add, show 16 * (n / 16) + n % 16 = n from by omega] at hv
  have hn : Nm ((List.replicate (n / 16 + 1) 0).set (n / 16) (2 ^ (n % 16))) := by
    intro hne
    rw [List.getLast_eq_getElem, List.getElem_set]
    simp only [List.length_set, List.length_replicate, Nat.add_sub_cancel, if_true]
    exact Nat.ne_of_gt (Nat.two_pow_pos _)
  have := dig_val 65536 (by decide) _ ha hn
  rw [hv] at this
  exact this.symm

theorem Bk.alloc_set (k : IntKind) (e : TypeId) (w : World) (l : List Nat) (h u : Nat) : Bk k e (w.alloc (.cells ((vs k l).set h (.int k (u : Int))).toArray e)) w.heap.size (l.set h u) := by
  have e1 : vs k (l.set h u) = (vs k l).set h (.int k (u : Int)) := by simp [vs, List.map_set]
  unfold Bk
  rw [e1]
  exact heap_alloc_new w _

end Go.Proofs.Ytpdglbfnmilblaa
namespace Go.Proofs.Ytpdglbfnmilblaa
open Go.RowKit
set_option linter.unusedVariables false

/-- What a call answers that hands back a row and an error. -/
def RwErr (k : IntKind) (W : World) (l : List Nat) (err : Int) (e : Ending) (w : World) : Prop := ∃ v, e = .returned (.tuple #[v, .int .i64 err]) ∧ Rw k w v l ∧ Bl W w
theorem RwErr.mk {k : IntKind} {W w : World} {l : List Nat} {v : Value} {err : Int} (h : Rw k w v l) (g : Bl W w) : RwErr k W l err (.returned (.tuple #[v, .int .i64 err])) w := ⟨v, rfl, h, g⟩

theorem digs_of_words (l : List Nat) (ha : All 18446744073709551616 l) (hl : l.length < 34359738368) : (dig 65536 (val 18446744073709551616 l)).length < 137438953472 := by
  have h := val_lt 18446744073709551616 (by decide) l ha
  rw [w64_pow] at h
  have := dig_len_of_lt 65536 (by decide) _ _ h
  omega
end Go.Proofs.Ytpdglbfnmilblaa
