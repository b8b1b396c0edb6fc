/-
  Rows of words, place by place: the carry of a sum, of a difference, of a product with a word; moves; the lowest bits. No program in sight. (B: the base; wd B X i: the i-th word of X.)
-/
import Derived.Test.YtdoohlehglakfaaNtN
namespace Go.Proofs.Ytdoohlehglakfaa
set_option linter.unusedVariables false

def wd (B X i : Nat) : Nat := X / B ^ i % B
theorem wd_lt (B : Nat) (hB : 0 < B) (X i : Nat) : wd B X i < B := Nat.mod_lt _ hB
theorem wd_all (B : Nat) (X i : Nat) (h : X < B ^ i) : wd B X i = 0 := by unfold wd; rw [Nat.div_eq_of_lt h, Nat.zero_mod]
theorem wd_mono (B : Nat) (hB : 0 < B) (X n i : Nat) (h : X < B ^ n) (hi : n ≤ i) : wd B X i = 0 := wd_all B X i (Nat.lt_of_lt_of_le h (Nat.pow_le_pow_right hB hi))
theorem wd_get (B : Nat) (hB : 0 < B) (l : List Nat) (ha : All B l) (i : Nat) (hi : i < l.length) : l[i] = wd B (val B l) i := get_val B hB l ha i hi
theorem wd_getD (B : Nat) (hB : 0 < B) (l : List Nat) (ha : All B l) (i : Nat) : l.getD i 0 = wd B (val B l) i := by
  by_cases h : i < l.length
  · rw [← wd_get B hB l ha i h]; simp [h]
  · rw [wd_mono B hB _ l.length i (val_lt B hB l ha) (by omega)]; simp [h]
/-- The words up to the i-th, and the i-th. -/
theorem wmod_succ (B X i : Nat) : X % B ^ (i + 1) = X % B ^ i + B ^ i * wd B X i := by
  unfold wd
  rw [Nat.pow_succ, Nat.mod_mul]
/-- L words that are X's: if X has no more, the row reads as X. -/
theorem rowf_wd (B : Nat) (hB : 2 ≤ B) (X L : Nat) (h : X < B ^ L) : val B (rowf L (wd B X)) = X := by
  have := rowf_val B X hB L
  rw [Nat.mod_eq_of_lt h] at this
  exact this
theorem all_rowf (B L : Nat) (f : Nat → Nat) (h : ∀ i, f i < B) : All B (rowf L f) := fun i hi => by rw [rowf_get]; exact h i

/-! ### Sums -/
def addc (B X Y i : Nat) : Nat := (X % B ^ i + Y % B ^ i) / B ^ i
theorem addc_zero (B X Y : Nat) : addc B X Y 0 = 0 := by unfold addc; simp [Nat.mod_one]
theorem addc_le (B : Nat) (hB : 0 < B) (X Y i : Nat) : addc B X Y i ≤ 1 := by
  have hp : 0 < B ^ i := Nat.pow_pos hB
  have h1 := Nat.mod_lt X hp
  have h2 := Nat.mod_lt Y hp
  have : addc B X Y i < 2 := by unfold addc; rw [Nat.div_lt_iff_lt_mul hp]; omega
  omega
theorem add_step (B : Nat) (hB : 0 < B) (X Y i : Nat) : wd B X i + wd B Y i + addc B X Y i = wd B (X + Y) i + B * addc B X Y (i + 1) := by
  have hp : 0 < B ^ i := Nat.pow_pos hB
  unfold addc
  rw [wmod_succ, wmod_succ, Nat.pow_succ, ← Nat.div_div_eq_div_mul]
  have e1 : (X % B ^ i + B ^ i * wd B X i + (Y % B ^ i + B ^ i * wd B Y i)) / B ^ i = (X % B ^ i + Y % B ^ i) / B ^ i + (wd B X i + wd B Y i) := by
    rw [show X % B ^ i + B ^ i * wd B X i + (Y % B ^ i + B ^ i * wd B Y i) = X % B ^ i + Y % B ^ i + B ^ i * (wd B X i + wd B Y i) by rw [Nat.mul_add]; omega]
    exact Nat.add_mul_div_left _ _ hp
  have e2 : wd B (X + Y) i = ((X % B ^ i + Y % B ^ i) / B ^ i + (wd B X i + wd B Y i)) % B := by
    unfold wd
    have e3 : (X + Y) / B ^ i = (X % B ^ i + Y % B ^ i) / B ^ i + (X / B ^ i + Y / B ^ i) := by
      have hx := Nat.div_add_mod X (B ^ i)
      have hy := Nat.div_add_mod Y (B ^ i)
      have : X + Y = X % B ^ i + Y % B ^ i + B ^ i * (X / B ^ i + Y / B ^ i) := by rw [Nat.mul_add]; omega
      rw [this]
      rw [Nat.add_mul_div_left _ _ hp]
    rw [e3, Nat.add_mod, Nat.add_mod (X / B ^ i)]
    rw [Nat.add_mod ((X % B ^ i + Y % B ^ i) / B ^ i) (X / B ^ i % B + Y / B ^ i % B)]
  rw [e1, e2]
  have := Nat.div_add_mod ((X % B ^ i + Y % B ^ i) / B ^ i + (wd B X i + wd B Y i)) B
  omega
theorem add_end (B : Nat) (hB : 0 < B) (X Y n : Nat) (hX : X < B ^ n) (hY : Y < B ^ n) : addc B X Y n = wd B (X + Y) n := by
  have h := add_step B hB X Y n
  have hp : 0 < B ^ n := Nat.pow_pos hB
  rw [wd_all B X n hX, wd_all B Y n hY] at h
  have h1 : addc B X Y (n + 1) = 0 := by
    unfold addc
    rw [Nat.pow_succ]
    refine Nat.div_eq_of_lt ?_
    rcases Nat.lt_or_ge B 2 with hb | hb
    · have : B = 1 := by omega
      subst this
      simp at hX hY
      subst hX hY
      simp
    · have : B ^ n * 2 ≤ B ^ n * B := Nat.mul_le_mul_left _ hb
      rw [Nat.mod_eq_of_lt (by omega), Nat.mod_eq_of_lt (by omega)]
      omega
  rw [h1] at h
  omega
theorem add_lt (B : Nat) (hB : 2 ≤ B) (X Y n : Nat) (hX : X < B ^ n) (hY : Y < B ^ n) : X + Y < B ^ (n + 1) := by
  rw [Nat.pow_succ]
  have : B ^ n * 2 ≤ B ^ n * B := Nat.mul_le_mul_left _ hB
  omega

/-! ### Differences: what is owed is the carry of Y + (X - Y). -/
def subc (B X Y i : Nat) : Nat := if X % B ^ i < Y % B ^ i then 1 else 0
theorem subc_zero (B X Y : Nat) : subc B X Y 0 = 0 := by unfold subc; simp [Nat.mod_one]
theorem subc_le (B X Y i : Nat) : subc B X Y i ≤ 1 := by unfold subc; split <;> omega
theorem subc_addc (B : Nat) (hB : 0 < B) (Y D i : Nat) : subc B (Y + D) Y i = addc B Y D i := by
  have hp : 0 < B ^ i := Nat.pow_pos hB
  unfold subc addc
  have h1 := Nat.mod_lt Y hp
  have h2 := Nat.mod_lt D hp
  have e : (Y + D) % B ^ i = (Y % B ^ i + D % B ^ i) % B ^ i := Nat.add_mod _ _ _
  rw [e]
  generalize Y % B ^ i = p at *
  generalize D % B ^ i = q at *
  by_cases h : p + q < B ^ i
  · rw [Nat.mod_eq_of_lt h, Nat.div_eq_of_lt h, if_neg (by omega)]
  · have e1 : (p + q) / B ^ i = 1 := by
      rw [Nat.div_eq_iff hp]
      omega
    have e2 : (p + q) % B ^ i = p + q - B ^ i := by
      rw [Nat.mod_eq_sub_mod (by omega), Nat.mod_eq_of_lt (by omega)]
    rw [e1, e2, if_pos (by omega)]
theorem sub_step (B : Nat) (hB : 0 < B) (X Y i : Nat) (h : Y ≤ X) : wd B X i + B * subc B X Y (i + 1) = wd B Y i + wd B (X - Y) i + subc B X Y i := by
  obtain ⟨D, rfl⟩ : ∃ D, X = Y + D := ⟨X - Y, by omega⟩
  rw [subc_addc B hB, subc_addc B hB, Nat.add_sub_cancel_left]
  exact (add_step B hB Y D i).symm
theorem sub_end (B : Nat) (X Y n : Nat) (hX : X < B ^ n) (hY : Y < B ^ n) : subc B X Y n = if X < Y then 1 else 0 := by
  unfold subc
  rw [Nat.mod_eq_of_lt hX, Nat.mod_eq_of_lt hY]
/-- .. whichever is above: the words are those of X + B^n - Y. -/
theorem sub_step' (B : Nat) (hB : 0 < B) (X Y n i : Nat) (hY : Y ≤ X + B ^ n) (hi : i < n) : wd B X i + B * subc B X Y (i + 1) = wd B Y i + wd B (X + B ^ n - Y) i + subc B X Y i := by
  have h := sub_step B hB (X + B ^ n) Y i hY
  have e1 : ∀ j, j ≤ n → subc B (X + B ^ n) Y j = subc B X Y j := fun j hj => by
    unfold subc
    obtain ⟨d, rfl⟩ : ∃ d, n = j + d := ⟨n - j, by omega⟩
    rw [Nat.pow_add, Nat.add_mul_mod_self_left]
  have e2 : wd B (X + B ^ n) i = wd B X i := by
    unfold wd
    obtain ⟨d, rfl⟩ : ∃ d, n = i + (1 + d) := ⟨n - i - 1, by omega⟩
    rw [Nat.pow_add, Nat.add_mul_div_left _ _ (Nat.pow_pos hB), Nat.pow_add, Nat.pow_one, Nat.add_mul_mod_self_left]
  rw [e1 i (by omega), e1 (i + 1) (by omega), e2] at h
  exact h

/-! ### Products with a word -/
def mulc (B X y i : Nat) : Nat := X % B ^ i * y / B ^ i
theorem mulc_zero (B X y : Nat) : mulc B X y 0 = 0 := by unfold mulc; simp [Nat.mod_one]
theorem mulc_lt (B : Nat) (hB : 0 < B) (X y i : Nat) (hy : 0 < y) : mulc B X y i < y := by
  have hp : 0 < B ^ i := Nat.pow_pos hB
  unfold mulc
  rw [Nat.div_lt_iff_lt_mul hp, Nat.mul_comm y]
  exact Nat.mul_lt_mul_of_pos_right (Nat.mod_lt X hp) hy
theorem mulc_nil (B X i : Nat) : mulc B X 0 i = 0 := by unfold mulc; simp
theorem mul_step (B : Nat) (hB : 0 < B) (X y i : Nat) : wd B X i * y + mulc B X y i = wd B (X * y) i + B * mulc B X y (i + 1) := by
  have hp : 0 < B ^ i := Nat.pow_pos hB
  unfold mulc
  rw [wmod_succ, Nat.pow_succ, ← Nat.div_div_eq_div_mul]
  have e1 : (X % B ^ i + B ^ i * wd B X i) * y / B ^ i = X % B ^ i * y / B ^ i + wd B X i * y := by
    rw [Nat.add_mul, Nat.mul_assoc]
    exact Nat.add_mul_div_left _ _ hp
  have e2 : wd B (X * y) i = (X % B ^ i * y / B ^ i + wd B X i * y) % B := by
    unfold wd
    have e3 : X * y / B ^ i = X % B ^ i * y / B ^ i + X / B ^ i * y := by
      have hx := Nat.div_add_mod X (B ^ i)
      have : X * y = X % B ^ i * y + B ^ i * (X / B ^ i * y) := by
        rw [← Nat.mul_assoc, ← Nat.add_mul, Nat.add_comm (X % B ^ i), hx]
      rw [this]
      rw [Nat.add_mul_div_left _ _ hp]
    have e4 : X / B ^ i * y % B = X / B ^ i % B * y % B := by rw [Nat.mul_mod (X / B ^ i) y, Nat.mul_mod (X / B ^ i % B) y, Nat.mod_mod]
    rw [e3, Nat.add_mod, e4, ← Nat.add_mod]
  rw [e1, e2]
  have := Nat.div_add_mod (X % B ^ i * y / B ^ i + wd B X i * y) B
  omega
theorem mul_end (B : Nat) (hB : 0 < B) (X y n : Nat) (hX : X < B ^ n) (hy : y ≤ B) : mulc B X y n = wd B (X * y) n := by
  have hp : 0 < B ^ n := Nat.pow_pos hB
  unfold mulc wd
  rw [Nat.mod_eq_of_lt hX]
  refine (Nat.mod_eq_of_lt ?_).symm
  rw [Nat.div_lt_iff_lt_mul hp]
  refine Nat.lt_of_le_of_lt (Nat.mul_le_mul_left X hy) ?_
  rw [Nat.mul_comm B]
  exact Nat.mul_lt_mul_of_pos_right hX hB

/-! ### Moves by bits: B = P * Q, a move up by P is a product with P. -/
theorem shl_step (B P Q X i : Nat) (hP : 0 < P) (hQ : 0 < Q) (h : P * Q = B) :
    wd B (X * P) i = wd B X i * P % B + mulc B X P i ∧ mulc B X P (i + 1) = wd B X i / Q ∧ mulc B X P i < P := by
  have hB : 0 < B := h ▸ Nat.mul_pos hP hQ
  have hs := mul_step B hB X P i
  have hc := mulc_lt B hB X P i hP
  have hw := wd_lt B hB X i
  have hw' := wd_lt B hB (X * P) i
  generalize wd B X i = x at *
  generalize wd B (X * P) i = z at *
  generalize mulc B X P i = c at *
  generalize mulc B X P (i + 1) = c' at *
  have e1 : x * P % B = x % Q * P := by rw [← h, Nat.mul_comm P Q, Nat.mul_mod_mul_right]
  have e2 : x * P = x % Q * P + B * (x / Q) := by
    have := Nat.div_add_mod x Q
    rw [← h, Nat.mul_assoc, ← Nat.mul_comm P, ← Nat.mul_comm P, ← Nat.mul_add, Nat.add_comm, this]
  have h3 : x % Q * P + c < B := by
    have h4 : x % Q + 1 ≤ Q := Nat.mod_lt x hQ
    have h5 : (x % Q + 1) * P ≤ Q * P := Nat.mul_le_mul_right _ h4
    rw [Nat.add_mul, Nat.one_mul, Nat.mul_comm Q, h] at h5
    omega
  rw [e2] at hs
  have h6 : (x % Q * P + c) + B * (x / Q) = z + B * c' := by omega
  have h7 : x / Q = c' := by
    have a1 : ((x % Q * P + c) + B * (x / Q)) / B = x / Q := by rw [Nat.add_mul_div_left _ _ hB, Nat.div_eq_of_lt h3, Nat.zero_add]
    have a2 : (z + B * c') / B = c' := by rw [Nat.add_mul_div_left _ _ hB, Nat.div_eq_of_lt hw', Nat.zero_add]
    rw [← a1, h6, a2]
  refine ⟨?_, h7.symm, hc⟩
  rw [h7] at h6
  rw [e1]
  omega
theorem shr_step (B P Q X i : Nat) (hP : 0 < P) (hQ : 0 < Q) (h : P * Q = B) : wd B (X / P) i = wd B X i / P + wd B X (i + 1) % P * Q := by
  have hB : 0 < B := h ▸ Nat.mul_pos hP hQ
  have e0 : X / P / B ^ i = X / B ^ i / P := by rw [Nat.div_div_eq_div_mul, Nat.div_div_eq_div_mul, Nat.mul_comm]
  have e1 : wd B X (i + 1) = X / B ^ i / B % B := by unfold wd; rw [Nat.pow_succ, Nat.div_div_eq_div_mul]
  unfold wd
  rw [e0, show X / B ^ (i + 1) % B = X / B ^ i / B % B from e1]
  generalize X / B ^ i = Y
  -- Y / P % B = Y % B / P + Y / B % B % P * Q
  have hd : P ∣ B := ⟨Q, h.symm⟩
  rw [Nat.mod_mod_of_dvd _ hd]
  have h1 : Y % B / P = Y / P % Q := by rw [← h, Nat.mod_mul_right_div_self]
  rw [h1, ← h, Nat.mul_comm P Q, Nat.mod_mul, Nat.div_div_eq_div_mul, Nat.mul_comm Q P]
  rw [Nat.mul_comm Q]
/-- Moves by words. -/
theorem wd_up (B : Nat) (hB : 0 < B) (X k i : Nat) : wd B (X * B ^ k) (i + k) = wd B X i := by
  unfold wd
  rw [Nat.pow_add, Nat.mul_div_mul_right _ _ (Nat.pow_pos hB)]
theorem wd_up_low (B : Nat) (hB : 0 < B) (X k i : Nat) (h : i < k) : wd B (X * B ^ k) i = 0 := by
  unfold wd
  obtain ⟨d, rfl⟩ : ∃ d, k = i + (1 + d) := ⟨k - i - 1, by omega⟩
  rw [Nat.pow_add, Nat.pow_add, Nat.pow_one]
  rw [show X * (B ^ i * (B * B ^ d)) = B * (X * B ^ d) * B ^ i by ac_rfl, Nat.mul_div_cancel _ (Nat.pow_pos hB), Nat.mul_mod_right]
theorem wd_down (B X k i : Nat) : wd B (X / B ^ k) i = wd B X (i + k) := by
  unfold wd
  rw [Nat.div_div_eq_div_mul, ← Nat.pow_add, Nat.add_comm k]
/-- The lowest words and bits: X % (B^k * P), P a part of B. -/
theorem low_words (B : Nat) (hB : 0 < B) (X k P i : Nat) (h : i < k) : wd B (X % (B ^ k * P)) i = wd B X i := by
  unfold wd
  obtain ⟨d, rfl⟩ : ∃ d, k = i + (1 + d) := ⟨k - i - 1, by omega⟩
  rw [show B ^ (i + (1 + d)) * P = B ^ i * (B * (B ^ d * P)) by rw [Nat.pow_add, Nat.pow_add, Nat.pow_one]; ac_rfl, Nat.mod_mul_right_div_self, Nat.mod_mul_right_mod]
theorem low_last (B P Q X k : Nat) (hP : 0 < P) (hQ : 0 < Q) (h : P * Q = B) : wd B (X % (B ^ k * P)) k = wd B X k % P := by
  unfold wd
  rw [Nat.mod_mul_right_div_self]
  have hd : P ∣ B := ⟨Q, h.symm⟩
  rw [Nat.mod_mod_of_dvd _ hd]
  exact Nat.mod_eq_of_lt (Nat.lt_of_lt_of_le (Nat.mod_lt _ hP) (by rw [← h]; exact Nat.le_mul_of_pos_right P hQ))
theorem low_lt (B P X k : Nat) (hB : 0 < B) (hP : 0 < P) (h : P ≤ B) : X % (B ^ k * P) < B ^ (k + 1) := by
  refine Nat.lt_of_lt_of_le (Nat.mod_lt _ (Nat.mul_pos (Nat.pow_pos hB) hP)) ?_
  rw [Nat.pow_succ]
  exact Nat.mul_le_mul_left _ h
/-- A move by n bits is one by n / 64 words and n % 64 bits. -/
theorem two_n (n : Nat) : 2 ^ n = 18446744073709551616 ^ (n / 64) * 2 ^ (n % 64) := by
  have e : (18446744073709551616 : Nat) = 2 ^ 64 := by decide
  rw [e, ← Nat.pow_mul, ← Nat.pow_add, Nat.div_add_mod]
theorem pq64 (s : Nat) (h : s ≤ 64) : 2 ^ s * 2 ^ (64 - s) = 18446744073709551616 := by
  rw [← Nat.pow_add, show s + (64 - s) = 64 by omega]
end Go.Proofs.Ytdoohlehglakfaa
