/-
  The document's rows of digits (layer 4): Digits.
-/
import Derived.Test.YtgbeflocojmhhaaNtA
import Derived.Test.YtgbeflocojmhhaaWordP
namespace Go.Proofs.Ytgbeflocojmhhaa
open Go.RowKit
set_option linter.unusedVariables false

def W64 : Nat := 18446744073709551616
theorem W64_eq : W64 = 65536 ^ 4 := by decide
/-- Behind i words. -/
structure Dgt (l : List Nat) (i : Nat) (out : List Nat) : Prop where
  len : out.length = 4 * i
  all : All 65536 out
  num : val 65536 out = val W64 (l.take i)
/-- Behind i words, and k digits of the next one, of which y is left. -/
structure Dgi (l : List Nat) (i k : Nat) (out : List Nat) (y : Nat) : Prop where
  len : out.length = 4 * i + k
  all : All 65536 out
  num : val 65536 out + 65536 ^ (4 * i + k) * y = val W64 (l.take (i + 1))
  lt : y < 65536 ^ (4 - k)
theorem dgt_start (l : List Nat) : Dgt l 0 [] := ⟨rfl, all_nil _, by simp [val]⟩
theorem dgi_start {l : List Nat} {i : Nat} {out : List Nat} (h : Dgt l i out) (hi : i < l.length) (hw : l[i] < W64) : Dgi l i 0 out l[i] := by
  refine ⟨h.len, h.all, ?_, by rw [W64_eq] at hw; exact hw⟩
  rw [val_take_succ W64 l i hi, h.num, Nat.add_zero, Nat.pow_mul, ← W64_eq]
theorem dgi_step {l : List Nat} {i k : Nat} {out : List Nat} {y : Nat} (h : Dgi l i k out y) (hk : k < 4) : Dgi l i (k + 1) (out ++ [y % 65536]) (y / 65536) := by
  refine ⟨by rw [List.length_append, h.len]; rfl, all_snoc h.all (Nat.mod_lt _ (by decide)), ?_, ?_⟩
  · rw [← h.num, val_append, val_one, h.len, ← Nat.add_assoc, Nat.pow_succ, Nat.mul_assoc, Nat.add_assoc, ← Nat.mul_add, Nat.mod_add_div]
  · have e : 65536 ^ (4 - k) = 65536 ^ (4 - (k + 1)) * 65536 := by rw [← Nat.pow_succ]; congr 1; omega
    rw [Nat.div_lt_iff_lt_mul (by decide), ← e]
    exact h.lt
theorem dgi_end {l : List Nat} {i : Nat} {out : List Nat} {y : Nat} (h : Dgi l i 4 out y) : Dgt l (i + 1) out := by
  have hy : y = 0 := by have := h.lt; simp at this; exact this
  have hn := h.num
  rw [hy, Nat.mul_zero, Nat.add_zero] at hn
  exact ⟨by rw [h.len]; omega, h.all, hn⟩

end Go.Proofs.Ytgbeflocojmhhaa
