/-
  The document's rows of digits (layer 4): Mul.
-/
import Derived.Test.YtgbeflocojmhhaaNtG
import Derived.Test.YtgbeflocojmhhaaNtK
namespace Go.Proofs.Ytgbeflocojmhhaa
open Go.RowKit
set_option linter.unusedVariables false

theorem val_set (B : Nat) : ∀ (l : List Nat) (j r : Nat) (h : j < l.length), val B (l.set j r) + B ^ j * l[j] = val B l + B ^ j * r := by
  intro l
  induction l with
  | nil => intro j r h; simp at h
  | cons x l ih =>
    intro j r h
    cases j with
    | zero => show r + B * val B l + B ^ 0 * x = x + B * val B l + B ^ 0 * r; rw [Nat.pow_zero, Nat.one_mul, Nat.one_mul]; omega
    | succ j =>
      have e := ih j r (by simpa using h)
      show x + B * val B (l.set j r) + B ^ (j + 1) * (l[j]'(by simpa using h)) = x + B * val B l + B ^ (j + 1) * r
      have e2 : B * (val B (l.set j r) + B ^ j * l[j]'(by simpa using h)) = B * (val B l + B ^ j * r) := by rw [e]
      rw [Nat.mul_add, Nat.mul_add, ← Nat.mul_assoc, ← Nat.mul_assoc] at e2
      rw [Nat.pow_succ, Nat.mul_comm (B ^ j) B]
      omega
theorem all_set {B : Nat} {l : List Nat} (h : All B l) (j r : Nat) (hr : r < B) : All B (l.set j r) := by
  intro i hi
  rw [List.getElem_set]
  split
  · exact hr
  · exact h i (by simpa using hi)
theorem val_zeros (B L : Nat) : val B (List.replicate L 0) = 0 := by
  induction L with
  | zero => rfl
  | succ L ih => rw [List.replicate_succ]; show 0 + B * val B (List.replicate L 0) = 0; rw [ih]; simp
theorem all_zeros (B L : Nat) (hB : 0 < B) : All B (List.replicate L 0) := fun i hi => by simp [hB]

/-- Behind i digits of the first number. -/
structure Mo (X Y L i : Nat) (out : List Nat) : Prop where
  len : out.length = L
  all : All 65536 out
  num : val 65536 out = X % 65536 ^ i * Y
/-- .. and k digits of the second, with c carried. -/
structure Mi (X Y L i k c : Nat) (out : List Nat) : Prop where
  len : out.length = L
  all : All 65536 out
  num : val 65536 out + 65536 ^ (i + k) * c = X % 65536 ^ i * Y + 65536 ^ i * (X / 65536 ^ i % 65536) * (Y % 65536 ^ k)
  lt : c < 65536
theorem mo_start (X Y L : Nat) : Mo X Y L 0 (List.replicate L 0) := ⟨by simp, all_zeros _ _ (by decide), by rw [val_zeros]; simp [Nat.mod_one]⟩
theorem mi_start {X Y L i : Nat} {out : List Nat} (h : Mo X Y L i out) : Mi X Y L i 0 0 out := ⟨h.len, h.all, by rw [h.num, Nat.pow_zero, Nat.mod_one, Nat.mul_zero, Nat.mul_zero], by decide⟩
theorem mi_step {X Y L i k c : Nat} {out : List Nat} (h : Mi X Y L i k c out) (hj : i + k < out.length) (s : Nat) (hs : s = out[i + k] + X / 65536 ^ i % 65536 * (Y / 65536 ^ k % 65536) + c) :
    Mi X Y L i (k + 1) (s / 65536) (out.set (i + k) (s % 65536)) ∧ s < 4294967296 := by
  have h1 : X / 65536 ^ i % 65536 < 65536 := Nat.mod_lt _ (by decide)
  have h2 : Y / 65536 ^ k % 65536 < 65536 := Nat.mod_lt _ (by decide)
  have h3 := h.all (i + k) hj
  have h4 := h.lt
  have hsl : s < 4294967296 := by
    have : X / 65536 ^ i % 65536 * (Y / 65536 ^ k % 65536) ≤ 65535 * 65535 := Nat.mul_le_mul (by omega) (by omega)
    omega
  refine ⟨⟨by rw [List.length_set]; exact h.len, all_set h.all _ _ (Nat.mod_lt _ (by decide)), ?_, by omega⟩, hsl⟩
  have e1 := val_set 65536 out (i + k) (s % 65536) hj
  have e2 := h.num
  obtain ⟨o, ho⟩ : ∃ o, out[i + k] = o := ⟨_, rfl⟩
  rw [ho] at e1 hs
  obtain ⟨d1, hd1⟩ : ∃ d, X / 65536 ^ i % 65536 = d := ⟨_, rfl⟩
  rw [mod_succ 65536 Y k]
  rw [hd1] at e2 hs ⊢
  obtain ⟨d2, hd2⟩ : ∃ d, Y / 65536 ^ k % 65536 = d := ⟨_, rfl⟩
  rw [hd2] at hs ⊢
  have e3 : 65536 ^ (i + (k + 1)) * (s / 65536) + 65536 ^ (i + k) * (s % 65536) = 65536 ^ (i + k) * s := by
    rw [show i + (k + 1) = i + k + 1 from rfl, Nat.pow_succ, Nat.mul_assoc, ← Nat.mul_add, Nat.div_add_mod]
  have e4 : 65536 ^ (i + k) * s = 65536 ^ (i + k) * o + 65536 ^ (i + k) * (d1 * d2) + 65536 ^ (i + k) * c := by rw [hs, Nat.mul_add, Nat.mul_add]
  have e5 : 65536 ^ i * d1 * (Y % 65536 ^ k + 65536 ^ k * d2) = 65536 ^ i * d1 * (Y % 65536 ^ k) + 65536 ^ (i + k) * (d1 * d2) := by
    rw [Nat.mul_add, Nat.pow_add]
    congr 1
    simp only [Nat.mul_assoc, Nat.mul_left_comm]
  rw [e5]
  omega
theorem mi_far {X Y L i k c m : Nat} {out : List Nat} (hY : (dig 65536 Y).length = m) (h : Mi X Y L i k c out) (hk : m + 1 ≤ k) : c = 0 := by
  have hYl := dig_lt 65536 (by decide) Y
  rw [hY] at hYl
  have e := h.num
  rw [Nat.mod_eq_of_lt (Nat.lt_of_lt_of_le hYl (Nat.pow_le_pow_right (by decide) (by omega))), ← Nat.add_mul, ← mod_succ 65536 X i] at e
  have h1 : X % 65536 ^ (i + 1) * Y < 65536 ^ (i + 1) * 65536 ^ m := Nat.mul_lt_mul'' (Nat.mod_lt _ (Nat.pow_pos (by decide))) hYl
  rw [← Nat.pow_add] at h1
  have h2 : 65536 ^ (i + 1 + m) ≤ 65536 ^ (i + k) := Nat.pow_le_pow_right (by decide) (by omega)
  rcases Nat.eq_zero_or_pos c with h0 | h0
  · exact h0
  · have h3 : 65536 ^ (i + k) * 1 ≤ 65536 ^ (i + k) * c := Nat.mul_le_mul_left _ h0
    rw [Nat.mul_one] at h3
    omega
theorem mi_end {X Y L i k m : Nat} {out : List Nat} (hY : (dig 65536 Y).length = m) (h : Mi X Y L i k 0 out) (hk : m ≤ k) : Mo X Y L (i + 1) out := by
  refine ⟨h.len, h.all, ?_⟩
  have e := h.num
  rw [mod_all 65536 (by decide) Y k (by omega), Nat.mul_zero, Nat.add_zero, ← Nat.add_mul, ← mod_succ 65536 X i] at e
  exact e
theorem mo_end {X Y L i n : Nat} {out : List Nat} (hX : (dig 65536 X).length = n) (h : Mo X Y L i out) (hi : n ≤ i) : val 65536 out = X * Y := by
  rw [h.num, mod_all 65536 (by decide) X i (by omega)]
theorem mi_num (o d1 d2 c s : Nat) (h1 : o < 65536) (h2 : d1 < 65536) (h3 : d2 < 65536) (h4 : c < 65536) (hs : s = o + d1 * d2 + c) : ∃ p u r q : Nat, IntKind.i64.wrap ((d1 : Int) * (d2 : Int)) = (p : Int) ∧ IntKind.i64.wrap ((o : Int) + (p : Int)) = (u : Int) ∧ IntKind.i64.wrap ((u : Int) + (c : Int)) = (s : Int) ∧
    (s : Int) % 65536 = (r : Int) ∧ (s : Int) / 65536 = (q : Int) ∧ s % 65536 = r ∧ s / 65536 = q := by
  have hp : d1 * d2 ≤ 65535 * 65535 := Nat.mul_le_mul (by omega) (by omega)
  refine ⟨d1 * d2, o + d1 * d2, s % 65536, s / 65536, ?_, ?_, ?_, by omega, by omega, rfl, rfl⟩
  · rw [← Int.natCast_mul]; exact IntWalk.i64_in _ (by omega)
  · rw [← Int.natCast_add]; exact IntWalk.i64_in _ (by omega)
  · rw [← Int.natCast_add, ← hs]; exact IntWalk.i64_in _ (by omega)

end Go.Proofs.Ytgbeflocojmhhaa
