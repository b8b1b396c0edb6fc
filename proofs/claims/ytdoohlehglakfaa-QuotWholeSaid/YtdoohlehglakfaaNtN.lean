/-
  Rows of digits: each digit told by the number; lengths; rows to the base 2^16 and to the base 2^64. No program in sight.
-/
import Derived.Test.YtdoohlehglakfaaNtM
namespace Go.Proofs.Ytdoohlehglakfaa
set_option linter.unusedVariables false

theorem val_take_drop (B : Nat) (hB : 0 < B) (l : List Nat) (ha : All B l) (k : Nat) (hk : k ≤ l.length) : val B (l.take k) = val B l % B ^ k ∧ val B (l.drop k) = val B l / B ^ k := by
  have e : val B l = val B (l.take k) + B ^ k * val B (l.drop k) := by
    have h := val_append B (l.take k) (l.drop k)
    rw [List.take_append_drop, List.length_take, Nat.min_eq_left hk] at h
    exact h
  have hlt : val B (l.take k) < B ^ k := by
    have h := val_lt B hB (l.take k) (all_take ha k)
    rwa [List.length_take, Nat.min_eq_left hk] at h
  have hp : 0 < B ^ k := Nat.pow_pos hB
  constructor
  · rw [e, Nat.add_mul_mod_self_left, Nat.mod_eq_of_lt hlt]
  · rw [e, Nat.add_mul_div_left _ _ hp, Nat.div_eq_of_lt hlt, Nat.zero_add]
theorem get_val (B : Nat) (hB : 0 < B) (l : List Nat) (ha : All B l) (i : Nat) (hi : i < l.length) : l[i] = val B l / B ^ i % B := by
  rw [← (val_take_drop B hB l ha i (by omega)).2, List.drop_eq_getElem_cons hi]
  show l[i] = (l[i] + B * val B (l.drop (i + 1))) % B
  rw [Nat.add_mul_mod_self_left, Nat.mod_eq_of_lt (ha i hi)]
theorem dig_get (B : Nat) (hB : 2 ≤ B) (n i : Nat) (hi : i < (dig B n).length) : (dig B n)[i] = n / B ^ i % B := by
  rw [get_val B (by omega) (dig B n) (all_dig B hB n) i hi, val_dig B hB]
theorem dig_lt (B : Nat) (hB : 2 ≤ B) (n : Nat) : n < B ^ (dig B n).length := by
  have h := val_lt B (by omega) (dig B n) (all_dig B hB n)
  rwa [val_dig B hB] at h
theorem dig_len_pos (B : Nat) (hB : 2 ≤ B) (n : Nat) (hn : 0 < n) : 0 < (dig B n).length := List.length_pos_iff.2 (dig_ne B n hB hn)
theorem dig_ge (B : Nat) (hB : 2 ≤ B) (n : Nat) (hn : 0 < n) : B ^ ((dig B n).length - 1) ≤ n := by
  have hl := dig_len_pos B hB n hn
  have h := nm_dig B hB n (dig_ne B n hB hn)
  rw [List.getLast_eq_getElem, dig_get B hB n _ (by omega)] at h
  rcases Nat.lt_or_ge n (B ^ ((dig B n).length - 1)) with h1 | h1
  · rw [Nat.div_eq_of_lt h1, Nat.zero_mod] at h; exact absurd rfl h
  · exact h1
theorem dig_len_of_lt (B : Nat) (hB : 2 ≤ B) (n k : Nat) (h : n < B ^ k) : (dig B n).length ≤ k := by
  rcases Nat.eq_zero_or_pos n with e | e
  · subst e; rw [dig_zero]; exact Nat.zero_le _
  · have h1 := dig_ge B hB n e
    rcases Nat.lt_or_ge k (dig B n).length with h2 | h2
    · have := Nat.pow_le_pow_right (show 0 < B by omega) (show k ≤ (dig B n).length - 1 by omega)
      omega
    · exact h2
/-- The row of L digits. -/
def rowf (L : Nat) (f : Nat → Nat) : List Nat := (List.range L).map f
theorem rowf_length (L : Nat) (f : Nat → Nat) : (rowf L f).length = L := by simp [rowf]
theorem rowf_get (L : Nat) (f : Nat → Nat) (i : Nat) (hi : i < (rowf L f).length) : (rowf L f)[i] = f i := by simp [rowf]
theorem rowf_succ (L : Nat) (f : Nat → Nat) : rowf (L + 1) f = rowf L f ++ [f L] := by simp [rowf, List.range_succ]
theorem rowf_ext {L : Nat} {l : List Nat} {f : Nat → Nat} (h : l.length = L) (hf : ∀ i (hi : i < l.length), l[i] = f i) : l = rowf L f :=
  List.ext_getElem (by rw [rowf_length]; exact h) fun i h1 h2 => by rw [hf i h1, rowf_get]
theorem rowf_congr {L : Nat} {f g : Nat → Nat} (h : ∀ i, i < L → f i = g i) : rowf L f = rowf L g :=
  rowf_ext (rowf_length L f) fun i hi => by rw [rowf_get]; exact h i (by rw [rowf_length] at hi; exact hi)
theorem rowf_set (L : Nat) (f g : Nat → Nat) (q v : Nat) (hv : v = g q) (h : ∀ i, i ≠ q → f i = g i) : (rowf L f).set q v = rowf L g := by
  refine rowf_ext (by rw [List.length_set, rowf_length]) fun i hi => ?_
  rw [List.getElem_set]
  split
  · rename_i e; rw [← e]; exact hv
  · rename_i e; rw [rowf_get]; exact h i (fun h' => e h'.symm)
theorem rowf_zero (L : Nat) : rowf L (fun _ => 0) = List.replicate L 0 := by
  refine (rowf_ext (by simp) fun i hi => by simp).symm
theorem rowf_val (B n : Nat) (hB : 2 ≤ B) : ∀ L, val B (rowf L fun q => n / B ^ q % B) = n % B ^ L := by
  intro L
  induction L with
  | zero => simp [rowf, val, Nat.mod_one]
  | succ L ih => rw [rowf_succ, val_append, val_one, ih, rowf_length, Nat.pow_succ, Nat.mod_mul]
theorem dig_of_len (B : Nat) (hB : 2 ≤ B) (n L : Nat) (hlt : n < B ^ L) (hge : L = 0 ∨ B ^ (L - 1) ≤ n) : dig B n = rowf L fun q => n / B ^ q % B := by
  have hv := rowf_val B n hB L
  rw [Nat.mod_eq_of_lt hlt] at hv
  have ha : All B (rowf L fun q => n / B ^ q % B) := fun i hi => by rw [rowf_get]; exact Nat.mod_lt _ (by omega)
  have hn : Nm (rowf L fun q => n / B ^ q % B) := by
    intro hne
    rcases hge with h | h
    · subst h; exact absurd rfl hne
    · rw [List.getLast_eq_getElem, rowf_get, rowf_length]
      have hL : L ≠ 0 := by intro e; subst e; exact hne rfl
      have hp : 0 < B ^ (L - 1) := Nat.pow_pos (by omega)
      have h1 : n / B ^ (L - 1) < B := by
        rw [Nat.div_lt_iff_lt_mul hp, Nat.mul_comm, ← Nat.pow_succ]
        rwa [show (L - 1).succ = L from by omega]
      rw [Nat.mod_eq_of_lt h1]
      have := Nat.div_pos h hp
      omega
  have := dig_val B hB _ ha hn
  rwa [hv] at this

/-! ### Digits of 16 bits and words of 64 -/
theorem two_pow16 (k : Nat) : (65536 : Nat) ^ k = 2 ^ (16 * k) := by rw [Nat.pow_mul]
theorem w64_pow (q : Nat) : (18446744073709551616 : Nat) ^ q = 65536 ^ (4 * q) := by rw [Nat.pow_mul]
/-- A word, of whose digits those from j on are there. -/
def wq (x j q : Nat) : Nat := x % 65536 ^ (4 * q + 4) / 65536 ^ (max j (4 * q))
theorem wq_start (x m q : Nat) (hm : x < 65536 ^ m) : wq x m q = 0 := by
  unfold wq
  refine Nat.div_eq_of_lt (Nat.lt_of_le_of_lt (Nat.mod_le _ _) (Nat.lt_of_lt_of_le hm (Nat.pow_le_pow_right (by decide) (Nat.le_max_left _ _))))
theorem wq_other (x i q : Nat) (h : i / 4 ≠ q) : wq x (i + 1) q = wq x i q := by
  unfold wq
  rcases Nat.lt_or_gt_of_ne h with h | h
  · rw [Nat.max_eq_right (by omega), Nat.max_eq_right (by omega)]
  · have hlt : x % 65536 ^ (4 * q + 4) < 65536 ^ (4 * q + 4) := Nat.mod_lt _ (Nat.pow_pos (by decide))
    rw [Nat.div_eq_of_lt (Nat.lt_of_lt_of_le hlt (Nat.pow_le_pow_right (by decide) (by omega))), Nat.div_eq_of_lt (Nat.lt_of_lt_of_le hlt (Nat.pow_le_pow_right (by decide) (by omega)))]
theorem mod_pow_digit (B x a i : Nat) (hB : 0 < B) (h : i < a) : x % B ^ a / B ^ i % B = x / B ^ i % B := by
  obtain ⟨d, rfl⟩ : ∃ d, a = i + (1 + d) := ⟨a - i - 1, by omega⟩
  rw [Nat.pow_add, Nat.mod_mul_right_div_self, Nat.pow_add, Nat.pow_one, Nat.mod_mul_right_mod]
theorem wq_step (x i q : Nat) (h : i / 4 = q) : 65536 * wq x (i + 1) q + x / 65536 ^ i % 65536 = wq x i q := by
  unfold wq
  rw [Nat.max_eq_left (by omega), Nat.max_eq_left (by omega), ← mod_pow_digit 65536 x (4 * q + 4) i (by decide) (by omega)]
  generalize x % 65536 ^ (4 * q + 4) = X
  rw [Nat.pow_succ, ← Nat.div_div_eq_div_mul]
  exact Nat.div_add_mod _ _
theorem wq_end (x q : Nat) : wq x 0 q = x / 18446744073709551616 ^ q % 18446744073709551616 := by
  unfold wq
  rw [Nat.max_eq_right (by omega), w64_pow, Nat.pow_add, Nat.mod_mul_right_div_self]
theorem wq_lt (x j q : Nat) : wq x j q < 18446744073709551616 := by
  unfold wq
  have h1 : x % 65536 ^ (4 * q + 4) / 65536 ^ (max j (4 * q)) ≤ x % 65536 ^ (4 * q + 4) / 65536 ^ (4 * q) := Nat.div_le_div_left (Nat.pow_le_pow_right (by decide) (Nat.le_max_right _ _)) (Nat.pow_pos (by decide))
  rw [Nat.pow_add (a := 65536) (m := 4 * q) (n := 4), Nat.mod_mul_right_div_self] at h1
  have h2 : x / 65536 ^ (4 * q) % 65536 ^ 4 < 65536 ^ 4 := Nat.mod_lt _ (by decide)
  rw [Nat.pow_add]
  exact Nat.lt_of_le_of_lt h1 h2
theorem words_end (x : Nat) : rowf (((dig 65536 x).length + 3) / 4) (wq x 0) = dig 18446744073709551616 x := by
  have e : rowf (((dig 65536 x).length + 3) / 4) (wq x 0) = rowf (((dig 65536 x).length + 3) / 4) fun q => x / 18446744073709551616 ^ q % 18446744073709551616 := rowf_congr fun i _ => wq_end x i
  rw [e]
  refine (dig_of_len _ (by decide) x _ ?_ ?_).symm
  · rw [w64_pow]
    exact Nat.lt_of_lt_of_le (dig_lt 65536 (by decide) x) (Nat.pow_le_pow_right (by decide) (by omega))
  · rcases Nat.eq_zero_or_pos x with h | h
    · subst h; exact Or.inl rfl
    · refine Or.inr ?_
      have hl := dig_len_pos 65536 (by decide) x h
      rw [w64_pow]
      exact Nat.le_trans (Nat.pow_le_pow_right (by decide) (by omega)) (dig_ge 65536 (by decide) x h)
end Go.Proofs.Ytdoohlehglakfaa
