/-
  The document's rows of digits (layer 4): Power, Less.
-/
import Derived.Test.YtgbeflocojmhhaaNtH
import Derived.Test.YtgbeflocojmhhaaNtC
namespace Go.Proofs.Ytgbeflocojmhhaa
open Go.RowKit
set_option linter.unusedVariables false

theorem power_row (n : Nat) : (List.replicate (n / 16 + 1) 0).set (n / 16) (2 ^ (n % 16)) = dig 65536 (2 ^ n) := by
  have hp : 2 ^ (n % 16) < 65536 := by
    have : 2 ^ (n % 16) ≤ 2 ^ 15 := Nat.pow_le_pow_right (by decide) (by omega)
    omega
  have ha : All 65536 ((List.replicate (n / 16 + 1) 0).set (n / 16) (2 ^ (n % 16))) := all_set (all_zeros _ _ (by decide)) _ _ hp
  have hv := val_set 65536 (List.replicate (n / 16 + 1) 0) (n / 16) (2 ^ (n % 16)) (by simp)
  rw [val_zeros, List.getElem_replicate, Nat.mul_zero, Nat.add_zero, Nat.zero_add, two_pow16, ← Nat.pow_add, show 16 * (n / 16) + n % 16 = n from by omega] at hv
  have hn : Nm ((List.replicate (n / 16 + 1) 0).set (n / 16) (2 ^ (n % 16))) := by
    intro hne
    rw [List.getLast_eq_getElem, List.getElem_set]
    simp only [List.length_set, List.length_replicate, Nat.add_sub_cancel, if_true]
    exact Nat.ne_of_gt (Nat.two_pow_pos _)
  have := dig_val 65536 (by decide) _ ha hn
  rw [hv] at this
  exact this.symm

theorem Bk.alloc_set (k : IntKind) (e : TypeId) (w : World) (l : List Nat) (h u : Nat) : Bk k e (w.alloc (.cells ((vs k l).set h (.int k (u : Int))).toArray e)) w.heap.size (l.set h u) := by
  have e1 : vs k (l.set h u) = (vs k l).set h (.int k (u : Int)) := by simp [vs, List.map_set]
  unfold Bk
  rw [e1]
  exact heap_alloc_new w _

end Go.Proofs.Ytgbeflocojmhhaa
