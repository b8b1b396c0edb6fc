/-
  A slice that reads as a number; what package nat's Norm, Cmp, Add, Sub, Shl, Scale are to answer, as properties.
-/
import Derived.Test.YtdoohlehglakfaaPk8
namespace Go.Proofs.Ytdoohlehglakfaa
open Go.RowKit
set_option linter.unusedVariables false

/-- v reads as the number X. -/
def Nu (W : World) (v : Value) (X : Nat) : Prop := ∃ l, Rw .u64 W v l ∧ All 18446744073709551616 l ∧ l.length < 1048576 ∧ val 18446744073709551616 l = X
theorem Nu.bl {W w : World} {v : Value} {X : Nat} (h : Nu W v X) (g : Bl W w) : Nu w v X := by
  obtain ⟨l, h1, h2⟩ := h
  exact ⟨l, h1.bl g, h2⟩
theorem Nu.mk {W : World} {v : Value} {l : List Nat} (h : Rw .u64 W v l) (ha : All 18446744073709551616 l) (hl : l.length < 1048576) : Nu W v (val 18446744073709551616 l) := ⟨l, h, ha, hl, rfl⟩
/-- X has k words at most. -/
def Sz (k X : Nat) : Prop := X < 18446744073709551616 ^ k
theorem Sz.mono {k j X : Nat} (h : Sz k X) (hk : k ≤ j) : Sz j X := Nat.lt_of_lt_of_le h (Nat.pow_le_pow_right (by decide) hk)
theorem Sz.le {k X Y : Nat} (h : Sz k X) (hy : Y ≤ X) : Sz k Y := Nat.lt_of_le_of_lt hy h
theorem Sz.of_val {l : List Nat} (ha : All 18446744073709551616 l) {k : Nat} (hl : l.length ≤ k) : Sz k (val 18446744073709551616 l) := Sz.mono (val_lt _ (by decide) l ha) hl
theorem Sz.add {k X Y : Nat} (h : Sz k X) (h' : Sz k Y) : Sz (k + 1) (X + Y) := by
  unfold Sz at *
  rw [Nat.pow_succ]
  omega
theorem Sz.word {k X w : Nat} (h : Sz k X) (hw : w < 18446744073709551616) : Sz (k + 1) (X * w) := by
  unfold Sz at *
  rw [Nat.pow_succ]
  exact Nat.mul_lt_mul'' h hw
theorem Sz.shl {k X n j : Nat} (h : Sz k X) (hn : n ≤ 64 * j) : Sz (k + j) (X * 2 ^ n) := by
  unfold Sz at *
  have e : (18446744073709551616 : Nat) = 2 ^ 64 := by decide
  have h1 : 2 ^ n ≤ 18446744073709551616 ^ j := by
    rw [e, ← Nat.pow_mul]
    exact Nat.pow_le_pow_right (by decide) hn
  rw [Nat.pow_add]
  exact Nat.lt_of_lt_of_le (Nat.mul_lt_mul_of_pos_right h (Nat.two_pow_pos n)) (Nat.mul_le_mul_left _ h1)
theorem Nu.dig {W : World} {v : Value} {X k : Nat} (h : Rw .u64 W v (dig 18446744073709551616 X)) (hs : Sz k X) (hk : k < 1048576) : Nu W v X :=
  ⟨_, h, all_dig _ (by decide) X, Nat.lt_of_le_of_lt (dig_len_of_lt _ (by decide) X k hs) hk, val_dig _ (by decide) X⟩
theorem rw_len {k : IntKind} {w : World} {v : Value} {l : List Nat} (h : Rw k w v l) : l.length ≤ 9223372036854775807 := by
  obtain ⟨A, c, _, h1, h2, _⟩ := h
  unfold maxLen at h2
  omega

def CNorm : Prop := ∀ (W : World) (v : Value) (X : Nat), Nu W v X → Calls Try.prog 11 #[v] W (RwEnd .u64 W (dig 18446744073709551616 X))
end Go.Proofs.Ytdoohlehglakfaa
