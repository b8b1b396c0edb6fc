/-
  Bits of moved numbers; a row of nothing.
-/
import Derived.Test.YteoeaogfeblokaaNatCa
namespace Go.Proofs.Yteoeaogfeblokaa
open Go.RowKit
set_option linter.unusedVariables false

theorem blen_lt {x n : Nat} (h : x < 2 ^ n) : blen x ≤ n := by
  unfold blen
  split
  · omega
  · have := (Nat.log2_lt (by omega)).2 h
    omega
theorem blen_mod (x n r : Nat) (h : x % 2 ^ n = r) : blen r ≤ n := blen_lt (by rw [← h]; exact Nat.mod_lt _ (Nat.two_pow_pos n))
theorem blen_sz {k x : Nat} (h : Sz k x) : blen x ≤ 64 * k := by
  unfold Sz at h
  have e : (18446744073709551616 : Nat) = 2 ^ 64 := by decide
  rw [e, ← Nat.pow_mul] at h
  exact blen_lt h
theorem blen_shl_eq (x n : Nat) (h : 0 < x) : blen (x * 2 ^ n) = blen x + n := by
  have hp : 0 < x * 2 ^ n := Nat.mul_pos h (Nat.two_pow_pos n)
  unfold blen
  rw [if_neg (by omega), if_neg (by omega)]
  have h1 : 2 ^ (Nat.log2 x) ≤ x := (Nat.le_log2 (by omega)).1 (Nat.le_refl _)
  have h2 : x < 2 ^ (Nat.log2 x + 1) := (Nat.log2_lt (by omega)).1 (by omega)
  have e1 : Nat.log2 x + n ≤ Nat.log2 (x * 2 ^ n) := (Nat.le_log2 (by omega)).2 (by rw [Nat.pow_add]; exact Nat.mul_le_mul_right _ h1)
  have e2 : Nat.log2 (x * 2 ^ n) < Nat.log2 x + n + 1 := (Nat.log2_lt (by omega)).2 (by
    rw [show Nat.log2 x + n + 1 = Nat.log2 x + 1 + n from by omega, Nat.pow_add]
    exact Nat.mul_lt_mul_of_pos_right h2 (Nat.two_pow_pos n))
  omega
theorem blen_shl (x n : Nat) : blen (x * 2 ^ n) ≤ blen x + n := by
  rcases Nat.eq_zero_or_pos x with h | h
  · subst h; rw [Nat.zero_mul]; unfold blen; simp
  · rw [blen_shl_eq x n h]; omega
theorem row0 {k : IntKind} {w : World} {v : Value} (h : Rw k w v []) : ∃ A c, v = .slice A 0 c := by
  obtain ⟨A, c, hv, _⟩ := h
  exact ⟨A, c, hv⟩
end Go.Proofs.Yteoeaogfeblokaa
