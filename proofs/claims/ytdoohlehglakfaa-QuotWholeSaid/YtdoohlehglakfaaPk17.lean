/-
  Plain arithmetic of long division (layer 6): a figure that is guessed by the highest words, once both are moved up, is at most two too great. No program in sight.
-/
import Derived.Test.YtdoohlehglakfaaPk15
import Derived.Test.YtdoohlehglakfaaPk16
namespace Go.Proofs.Ytdoohlehglakfaa
open Go.RowKit
set_option linter.unusedVariables false

theorem all_dropq {B : Nat} {l : List Nat} (h : All B l) (k : Nat) : All B (l.drop k) := by
  intro i hi
  rw [List.getElem_drop]
  exact h _ _
theorem est_low {R D S P U V : Nat} (hP : 0 < P) (hV : 0 < V) (h1 : V * P ≤ D * S) (hU : R * S / P = U) : R / D ≤ U / V := by
  rw [Nat.le_div_iff_mul_le hV, ← hU, Nat.le_div_iff_mul_le hP]
  calc R / D * V * P = R / D * (V * P) := by rw [Nat.mul_assoc]
    _ ≤ R / D * (D * S) := Nat.mul_le_mul_left _ h1
    _ = R / D * D * S := by rw [Nat.mul_assoc]
    _ ≤ R * S := Nat.mul_le_mul_right _ (Nat.div_mul_le_self _ _)
theorem est_high {B R D S P U V Q : Nat} (hP : 0 < P) (hD : 0 < D) (hS : 0 < S) (h1 : V * P ≤ D * S) (h2 : D * S < (V + 1) * P) (hU : R * S / P = U) (hQ : Q * V ≤ U) (hB : Q ≤ B) (hV : B ≤ 2 * V) : Q ≤ R / D + 2 := by
  refine Nat.le_of_lt_succ (Nat.lt_of_mul_lt_mul_right (a := D * S) ?_)
  have hr : R < (R / D + 1) * D := by rw [Nat.mul_comm]; exact Nat.lt_mul_div_succ R hD
  have hr2 : R * S < (R / D + 1) * (D * S) := by rw [← Nat.mul_assoc]; exact Nat.mul_lt_mul_of_pos_right hr hS
  have e1 : Q * V * P ≤ R * S := by
    refine Nat.le_trans (Nat.mul_le_mul_right P hQ) ?_
    rw [← hU]; exact Nat.div_mul_le_self _ _
  have e2 : Q * P ≤ 2 * (D * S) := by
    refine Nat.le_trans (Nat.mul_le_mul_right P (Nat.le_trans hB hV)) ?_
    rw [Nat.mul_assoc]; exact Nat.mul_le_mul_left _ h1
  have e3 : Q * (D * S) ≤ Q * V * P + Q * P := by
    refine Nat.le_trans (Nat.mul_le_mul_left Q (Nat.le_of_lt h2)) ?_
    rw [← Nat.mul_assoc, Nat.mul_add, Nat.mul_one, Nat.add_mul]; exact Nat.le_refl _
  have e4 : (R / D + 2).succ * (D * S) = (R / D + 1) * (D * S) + 2 * (D * S) := by rw [← Nat.add_mul]
  omega

/-- The word i of a number that is moved up, as the program makes it. -/
def mvd (l : List Nat) (i s : Nat) : Nat := raF (l[i]?.getD 0) s (if i = 0 then 0 else raG (l[i - 1]?.getD 0) s 0)
theorem mvd_num (B S T Y t lo x : Nat) (hT : S * T = B) (hS : 0 < S) (hTp : 0 < T) (P : Nat) (hP : 0 < P) (hlo : lo < P) (hx : x < B) (ht : t = lo + P * x) : (P * B * Y + t) * S / (P * B) = Y * S + x / T := by
  subst ht
  have hB : 0 < B := by omega
  have h1 : (P * B * Y + (lo + P * x)) * S = P * B * (Y * S) + (lo + P * x) * S := by
    rw [Nat.add_mul]; congr 1; ac_rfl
  rw [h1, Nat.mul_add_div (Nat.mul_pos hP hB)]
  congr 1
  rw [← hT, show P * (S * T) = S * (P * T) by ac_rfl, Nat.mul_comm (lo + P * x) S, Nat.mul_div_mul_left _ _ hS, ← Nat.div_div_eq_div_mul, Nat.add_mul_div_left _ _ hP, Nat.div_eq_of_lt hlo, Nat.zero_add]
theorem or_up (a b S T B : Nat) (h : S = 2 ^ b) (hc : T < S) (hb : b ≤ 64) (hB : B = 18446744073709551616) (n : Nat) (ha : n = a * S % B) : n ||| T = n + T := by
  subst h hB ha
  have e : a * 2 ^ b % 18446744073709551616 = 2 ^ b * (a % 2 ^ (64 - b)) := by
    rw [← pq64 b hb, Nat.mul_comm a, Nat.mul_mod_mul_left]
  rw [e, ← Nat.two_pow_add_eq_or_of_lt hc]
theorem mvd_val (l : List Nat) (ha : All 18446744073709551616 l) (i s : Nat) (hs : s ≤ 63) (hi : i < l.length) : mvd l i s = val 18446744073709551616 l * 2 ^ s / 18446744073709551616 ^ i % 18446744073709551616 := by
  have hSp : 0 < 2 ^ s := Nat.two_pow_pos s
  have hST : 2 ^ s * 2 ^ (64 - s) = 18446744073709551616 := pq64 s (by omega)
  have hv := val_append 18446744073709551616 (l.take (i + 1)) (l.drop (i + 1))
  rw [List.take_append_drop, List.length_take, Nat.min_eq_left (by omega), val_take_succ 18446744073709551616 l i hi] at hv
  obtain ⟨Y, hY⟩ : ∃ Y, val 18446744073709551616 (l.drop (i + 1)) = Y := ⟨_, rfl⟩
  rw [hY] at hv
  have hg : l[i]?.getD 0 = l[i] := by simp [hi]
  unfold mvd
  rw [hg]
  obtain ⟨x, hx⟩ : ∃ x, l[i] = x := ⟨_, rfl⟩
  rw [hx] at hv ⊢
  by_cases h0 : i = 0
  · subst h0
    rw [if_pos rfl]
    have e0 : val 18446744073709551616 (l.take 0) = 0 := by simp [val]
    rw [e0, Nat.zero_add, Nat.pow_zero, Nat.one_mul] at hv
    rw [hv, Nat.pow_zero, Nat.div_one]
    unfold raF
    rw [Nat.or_zero, Nat.zero_add, Nat.pow_one, Nat.add_mul, Nat.mul_assoc, Nat.add_mul_mod_self_left]
  · rw [if_neg h0]
    obtain ⟨j, rfl⟩ : ∃ j, i = j + 1 := ⟨i - 1, by omega⟩
    have hj : j < l.length := by omega
    have hgj : l[j + 1 - 1]?.getD 0 = l[j] := by simp [hj]
    rw [hgj]
    have hlow := val_take_succ 18446744073709551616 l j hj
    have hlo := val_lt 18446744073709551616 (by decide) _ (all_take ha j)
    rw [List.length_take, Nat.min_eq_left (by omega)] at hlo
    have hyB := ha j hj
    obtain ⟨y, hy⟩ : ∃ y, l[j] = y := ⟨_, rfl⟩
    rw [hy] at hlow hyB ⊢
    obtain ⟨lo, hl⟩ : ∃ y, val 18446744073709551616 (l.take j) = y := ⟨_, rfl⟩
    rw [hl] at hlow hlo
    obtain ⟨P, hP⟩ : ∃ P, 18446744073709551616 ^ j = P := ⟨_, rfl⟩
    have hPp : 0 < P := by rw [← hP]; exact Nat.pow_pos (by decide)
    rw [hP] at hlow hlo
    rw [hlow, Nat.pow_succ 18446744073709551616 (j + 1), Nat.pow_succ 18446744073709551616 j, hP] at hv
    have hv2 : val 18446744073709551616 l = P * 18446744073709551616 * (x + 18446744073709551616 * Y) + (lo + P * y) := by
      rw [hv, Nat.mul_add, ← Nat.mul_assoc]; omega
    have key := mvd_num 18446744073709551616 (2 ^ s) (2 ^ (64 - s)) (x + 18446744073709551616 * Y) (lo + P * y) lo y hST hSp (Nat.two_pow_pos _) P hPp hlo hyB rfl
    rw [hv2, Nat.pow_succ, hP, key]
    have hc : y / 2 ^ (64 - s) < 2 ^ s := by
      rw [Nat.div_lt_iff_lt_mul (Nat.two_pow_pos _), hST]; exact hyB
    unfold raF raG
    rw [or_up x s (2 ^ s) _ 18446744073709551616 rfl hc (by omega) rfl _ rfl]
    have e1 : (x + 18446744073709551616 * Y) * 2 ^ s = x * 2 ^ s + 18446744073709551616 * (Y * 2 ^ s) := by rw [Nat.add_mul, Nat.mul_assoc]
    rw [e1, Nat.add_right_comm, Nat.add_mul_mod_self_left]
    have e2 : x * 2 ^ s % 18446744073709551616 = 2 ^ s * (x % 2 ^ (64 - s)) := by
      rw [← hST, Nat.mul_comm x, Nat.mul_mod_mul_left]
    have e3 : x * 2 ^ s % 18446744073709551616 + y / 2 ^ (64 - s) < 18446744073709551616 := by
      rw [e2]
      have h1 : x % 2 ^ (64 - s) < 2 ^ (64 - s) := Nat.mod_lt _ (Nat.two_pow_pos _)
      have h2 : 2 ^ s * (x % 2 ^ (64 - s) + 1) ≤ 2 ^ s * 2 ^ (64 - s) := Nat.mul_le_mul_left _ h1
      rw [hST, Nat.mul_add, Nat.mul_one] at h2
      omega
    rw [Nat.add_mod, Nat.mod_eq_of_lt (Nat.lt_of_lt_of_le hc (by rw [← hST]; exact Nat.le_mul_of_pos_right _ (Nat.two_pow_pos _))), Nat.mod_eq_of_lt e3]
end Go.Proofs.Ytdoohlehglakfaa
