/-
  Plain arithmetic, no program in sight: binomial numbers; Fermat's little theorem; Proth's test, which proves the primes of this program prime.
-/
import Derived.KernelRfl
namespace Go.Proofs.YtiainhbkoehhjaaDoor
namespace Plain
set_option linter.unusedVariables false

/-! ### Binomial numbers -/
def C : Nat → Nat → Nat
  | _, 0 => 1
  | 0, _ + 1 => 0
  | n + 1, k + 1 => C n k + C n (k + 1)

theorem C_zero (n : Nat) : C n 0 = 1 := by cases n <;> rfl
theorem C_over : ∀ (n k : Nat), n < k → C n k = 0
  | 0, k + 1, _ => rfl
  | n + 1, k + 1, h => by rw [C, C_over n k (by omega), C_over n (k + 1) (by omega)]
theorem C_self : ∀ n, C n n = 1
  | 0 => rfl
  | n + 1 => by rw [C, C_self n, C_over n (n + 1) (by omega)]

theorem C_absorb : ∀ (n k : Nat), (k + 1) * C (n + 1) (k + 1) = (n + 1) * C n k
  | 0, 0 => rfl
  | 0, k + 1 => by rw [C_over (0 + 1) (k + 1 + 1) (by omega), C_over 0 (k + 1) (by omega), Nat.mul_zero, Nat.mul_zero]
  | n + 1, 0 => by
    have h := C_absorb n 0
    have e1 : C (n + 1 + 1) (0 + 1) = C (n + 1) 0 + C (n + 1) (0 + 1) := rfl
    rw [e1, C_zero]
    rw [C_zero] at h
    omega
  | n + 1, k + 1 => by
    have h1 := C_absorb n k
    have h2 := C_absorb n (k + 1)
    have e : C (n + 1) (k + 1) = C n k + C n (k + 1) := rfl
    rw [C, Nat.mul_add, h2, Nat.add_mul (k + 1) 1 (C (n + 1) (k + 1)), h1, Nat.one_mul, Nat.add_mul (n + 1) 1 (C (n + 1) (k + 1)), Nat.one_mul]
    rw [e, Nat.mul_add]
    omega

/-- The sum of C n k * x^k over k below m. -/
def S (n x : Nat) : Nat → Nat
  | 0 => 0
  | m + 1 => S n x m + C n m * x ^ m

theorem S_succ (n x : Nat) : ∀ m, S (n + 1) x (m + 1) = S n x (m + 1) + x * S n x m
  | 0 => by simp [S, C_zero]
  | m + 1 => by
    have e1 : S (n + 1) x (m + 1 + 1) = S (n + 1) x (m + 1) + C (n + 1) (m + 1) * x ^ (m + 1) := rfl
    have e2 : S n x (m + 1 + 1) = S n x (m + 1) + C n (m + 1) * x ^ (m + 1) := rfl
    have e3 : S n x (m + 1) = S n x m + C n m * x ^ m := rfl
    have e4 : C (n + 1) (m + 1) = C n m + C n (m + 1) := rfl
    have e5 : x * (C n m * x ^ m) = C n m * x ^ (m + 1) := by rw [Nat.pow_succ, Nat.mul_left_comm, Nat.mul_comm x]
    have ih := S_succ n x m
    rw [e1, ih, e2, e4, Nat.add_mul]
    have e6 : x * S n x (m + 1) = x * S n x m + x * (C n m * x ^ m) := by rw [e3, Nat.mul_add]
    rw [e6, e5]
    omega

theorem S_all (n x : Nat) : S n x (n + 1) = (x + 1) ^ n := by
  induction n with
  | zero => rfl
  | succ n ih =>
    rw [S_succ]
    have e : S n x (n + 1 + 1) = S n x (n + 1) := by
      rw [S, C_over n (n + 1) (by omega), Nat.zero_mul, Nat.add_zero]
    rw [e, ih, Nat.pow_succ, Nat.mul_add, Nat.mul_comm x, Nat.mul_one]
    omega

/-! ### Primes -/
/-- No number between has a divisor in common with p. -/
def Pr (p : Nat) : Prop := 2 ≤ p ∧ ∀ k, 0 < k → k < p → Nat.Coprime p k

theorem Pr_dvd_C {p k : Nat} (h : Pr p) (h0 : 0 < k) (hk : k < p) : p ∣ C p k := by
  obtain ⟨q, rfl⟩ : ∃ q, p = q + 1 := ⟨p - 1, by omega⟩
  obtain ⟨j, rfl⟩ : ∃ j, k = j + 1 := ⟨k - 1, by omega⟩
  have e := C_absorb q j
  have hd : q + 1 ∣ (j + 1) * C (q + 1) (j + 1) := ⟨_, e⟩
  exact (h.2 (j + 1) h0 hk).dvd_of_dvd_mul_left hd

theorem S_mod {p : Nat} (h : Pr p) (x : Nat) : ∀ m, m < p → S p x (m + 1) % p = 1
  | 0, _ => by
    have := h.1
    simp only [S, C_zero, Nat.pow_zero, Nat.mul_one, Nat.zero_add]
    exact Nat.mod_eq_of_lt (by omega)
  | m + 1, hm => by
    rw [S, Nat.add_mod, S_mod h x m (by omega)]
    have hd : p ∣ C p (m + 1) * x ^ (m + 1) := Nat.dvd_mul_right_of_dvd (Pr_dvd_C h (by omega) hm) _
    rw [Nat.mod_eq_zero_of_dvd hd]
    exact Nat.mod_eq_of_lt (by have := h.1; omega)

theorem fermat {p : Nat} (h : Pr p) : ∀ x, x ^ p % p = x % p
  | 0 => by
    have := h.1
    rw [Nat.zero_pow (by omega)]
  | x + 1 => by
    have hp := h.1
    obtain ⟨q, rfl⟩ : ∃ q, p = q + 1 := ⟨p - 1, by omega⟩
    have e : (x + 1) ^ (q + 1) = S (q + 1) x (q + 1) + x ^ (q + 1) := by rw [← S_all, S, C_self, Nat.one_mul]
    rw [e, Nat.add_mod, S_mod h x q (by omega), fermat h x, Nat.add_mod_mod, Nat.add_comm]

/-- What is divided by a number without a divisor in common is divided on both sides. -/
theorem cancel {p a x y : Nat} (h : Nat.Coprime p a) (hxy : x ≤ y) (e : a * x % p = a * y % p) : x % p = y % p := by
  have h1 : p ∣ a * y - a * x := Nat.dvd_of_mod_eq_zero (Nat.sub_mod_eq_zero_of_mod_eq e.symm)
  rw [← Nat.mul_sub] at h1
  obtain ⟨c, hc⟩ := h.dvd_of_dvd_mul_left h1
  have : y = x + p * c := by omega
  rw [this, Nat.add_mul_mod_self_left]

theorem fermat_one {p a : Nat} (h : Pr p) (ha : a % p ≠ 0) : a ^ (p - 1) % p = 1 := by
  have hp := h.1
  have hl : a % p < p := Nat.mod_lt _ (by omega)
  have hc := h.2 (a % p) (by omega) hl
  have hf := fermat h (a % p)
  have e : (a % p) ^ p = a % p * (a % p) ^ (p - 1) := by rw [← Nat.pow_succ']; congr 1; omega
  rw [e] at hf
  have h1 : 1 ≤ (a % p) ^ (p - 1) := Nat.one_le_pow _ _ (by omega)
  have := cancel hc h1 (by rw [Nat.mul_one]; exact hf.symm)
  rw [Nat.mod_eq_of_lt (by omega : 1 < p)] at this
  rw [Nat.pow_mod, ← this]

/-! ### Proth's test -/
/-- A number of two or more has a prime divisor, which is the number itself or not above its root. -/
theorem exists_prime (n : Nat) (hn : 2 ≤ n) : ∃ r, Pr r ∧ r ∣ n ∧ (r = n ∨ r * r ≤ n) := by
  -- the least divisor above 1
  have key : ∀ k r, 2 ≤ r → r ∣ n → r ≤ k → ∃ r, 2 ≤ r ∧ r ∣ n ∧ ∀ s, 2 ≤ s → s ∣ n → r ≤ s := by
    intro k
    induction k with
    | zero => intro r h2 _ h3; omega
    | succ k ih =>
      intro r h2 hd hk
      by_cases hs : ∃ s, 2 ≤ s ∧ s ∣ n ∧ s < r
      · obtain ⟨s, s2, sd, sl⟩ := hs
        exact ih s s2 sd (by omega)
      · exact ⟨r, h2, hd, fun s s2 sd => Nat.le_of_not_lt fun hl => hs ⟨s, s2, sd, hl⟩⟩
  obtain ⟨r, r2, rd, rmin⟩ := key n n hn (Nat.dvd_refl n) (Nat.le_refl n)
  refine ⟨r, ⟨r2, ?_⟩, rd, ?_⟩
  · intro k k0 kr
    have hg : Nat.gcd r k ≤ k := Nat.le_of_dvd k0 (Nat.gcd_dvd_right r k)
    have hd : Nat.gcd r k ∣ n := Nat.dvd_trans (Nat.gcd_dvd_left r k) rd
    have hp : 0 < Nat.gcd r k := Nat.gcd_pos_of_pos_right r k0
    by_cases h : Nat.gcd r k = 1
    · exact h
    · have := rmin _ (by omega) hd
      omega
  · obtain ⟨c, hc⟩ := rd
    by_cases h1 : c = 1
    · left; rw [hc, h1, Nat.mul_one]
    · right
      have hc0 : c ≠ 0 := by intro h0; rw [h0, Nat.mul_zero] at hc; omega
      have := rmin c (by omega) ⟨r, by rw [hc, Nat.mul_comm]⟩
      rw [hc]
      exact Nat.mul_le_mul_left r this

/-- Odd and even parts. -/
theorem two_part : ∀ (m : Nat), 0 < m → ∃ t d, m = 2 ^ t * (2 * d + 1) := by
  intro m
  induction m using Nat.strongRecOn with
  | ind m ih =>
    intro h0
    by_cases h : m % 2 = 1
    · exact ⟨0, m / 2, by rw [Nat.pow_zero, Nat.one_mul]; omega⟩
    · obtain ⟨t, d, e⟩ := ih (m / 2) (by omega) (by omega)
      refine ⟨t + 1, d, ?_⟩
      have : m = 2 * (m / 2) := by omega
      rw [this, e, Nat.pow_succ, Nat.mul_comm (2 ^ t) 2, Nat.mul_assoc]

theorem pow_mod_one {r b e : Nat} (hr : 2 ≤ r) (h : b % r = 1) : b ^ e % r = 1 := by
  rw [Nat.pow_mod, h, Nat.one_pow]
  exact Nat.mod_eq_of_lt (by omega)

theorem sq_of_neg {r b : Nat} (hr : 2 ≤ r) (h : b % r = r - 1) : b * b % r = 1 := by
  rw [Nat.mul_mod, h]
  obtain ⟨q, rfl⟩ : ∃ q, r = q + 2 := ⟨r - 2, by omega⟩
  have e : (q + 2 - 1) * (q + 2 - 1) = 1 + (q + 2) * q := by
    rw [show q + 2 - 1 = q + 1 from by omega, Nat.add_mul, Nat.mul_add, Nat.add_mul]
    omega
  rw [e, Nat.add_mul_mod_self_left]
  exact Nat.mod_eq_of_lt (by omega)

theorem neg_odd {r b d : Nat} (hr : 2 ≤ r) (h : b % r = r - 1) : b ^ (2 * d + 1) % r = r - 1 := by
  have e : b ^ (2 * d + 1) = (b * b) ^ d * b := by rw [Nat.pow_succ, Nat.pow_mul]; congr 2; rw [Nat.pow_two]
  rw [e, Nat.mul_mod, pow_mod_one hr (sq_of_neg hr h), h, Nat.one_mul]
  exact Nat.mod_eq_of_lt (by omega)

/-- Proth: p = h * 2^n + 1, p below (2^n + 1)^2, and a^((p-1)/2) is -1. -/
theorem proth (p h n a : Nat) (hn : 1 ≤ n) (hp : p = h * 2 ^ n + 1) (h3 : 3 ≤ p) (hlt : p < (2 ^ n + 1) * (2 ^ n + 1)) (e : Nat) (he : e = h * 2 ^ (n - 1)) (ha' : a ^ e % p = p - 1) : Pr p := by
  have ha : a ^ (h * 2 ^ (n - 1)) % p = p - 1 := he ▸ ha'
  clear he ha'
  obtain ⟨r, hr, hd, hor⟩ := exists_prime p (by omega)
  rcases hor with rfl | hle
  · exact hr
  · exfalso
    have r2 := hr.1
    -- modulo r, too, it is -1
    obtain ⟨c, hc⟩ := hd
    have har : a ^ (h * 2 ^ (n - 1)) % r = r - 1 := by
      have h1 := Nat.div_add_mod (a ^ (h * 2 ^ (n - 1))) p
      rw [ha] at h1
      generalize a ^ (h * 2 ^ (n - 1)) = A at *
      generalize A / p = z at *
      have c0 : c ≠ 0 := by intro c0; rw [c0, Nat.mul_zero] at hc; omega
      have e : A = (r - 1) + r * (c * z + (c - 1)) := by
        have e1 : r * (c * z + (c - 1)) = p * z + (p - r) := by
          rw [Nat.mul_add, ← Nat.mul_assoc, ← hc, Nat.mul_sub, ← hc, Nat.mul_one]
        rw [e1]
        have : r ≤ p := by rw [hc]; exact Nat.le_mul_of_pos_right r (by omega)
        omega
      rw [e, Nat.add_mul_mod_self_left]
      exact Nat.mod_eq_of_lt (by omega)
    have r3 : r ≠ 2 := by
      intro h2
      rw [h2] at hc
      have e2 : h * 2 ^ n = 2 * (h * 2 ^ (n - 1)) := by
        rw [Nat.mul_left_comm, ← Nat.pow_succ']; congr 2; omega
      omega
    -- r - 1 = 2^t * odd
    obtain ⟨t, d, ht⟩ := two_part (r - 1) (by omega)
    by_cases htn : t < n
    · -- then the power would be 1 and -1
      have hne : a % r ≠ 0 := by
        intro h0
        have : a ^ (h * 2 ^ (n - 1)) % r = 0 % r := by
          have hh : h * 2 ^ (n - 1) ≠ 0 := by
            intro hz
            rw [hz, Nat.pow_zero, Nat.mod_eq_of_lt (by omega)] at ha
            omega
          rw [Nat.pow_mod, h0, Nat.zero_pow (by omega)]
        rw [Nat.zero_mod] at this
        omega
      have hf := fermat_one hr hne
      rw [ht] at hf
      have h1 := neg_odd (d := d) r2 har
      have e : (a ^ (h * 2 ^ (n - 1))) ^ (2 * d + 1) = (a ^ (2 ^ t * (2 * d + 1))) ^ (h * 2 ^ (n - 1 - t)) := by
        rw [← Nat.pow_mul, ← Nat.pow_mul]
        congr 1
        have : 2 ^ (n - 1) = 2 ^ t * 2 ^ (n - 1 - t) := by rw [← Nat.pow_add]; congr 1; omega
        rw [this]
        simp only [Nat.mul_assoc, Nat.mul_left_comm, Nat.mul_comm]
      rw [e, pow_mod_one r2 hf] at h1
      omega
    · -- then r is greater than 2^n
      have hge : 2 ^ n ≤ r - 1 := by
        rw [ht]
        exact Nat.le_trans (Nat.pow_le_pow_right (by omega) (by omega)) (Nat.le_mul_of_pos_right _ (by omega))
      have : (2 ^ n + 1) * (2 ^ n + 1) ≤ r * r := Nat.mul_le_mul (by omega) (by omega)
      omega

/-! ### Powers, reckoned by squaring; the four primes -/
def pm : Nat → Nat → Nat → Nat → Nat
  | 0, _, _, m => 1 % m
  | f + 1, a, e, m => if e = 0 then 1 % m else if e % 2 = 1 then pm f (a * a % m) (e / 2) m * a % m else pm f (a * a % m) (e / 2) m

theorem pm_eq : ∀ (f a e m : Nat), e < 2 ^ f → pm f a e m = a ^ e % m
  | 0, a, e, m, h => by
    have : e = 0 := by rw [Nat.pow_zero] at h; omega
    rw [this, Nat.pow_zero, pm]
  | f + 1, a, e, m, h => by
    rw [pm]
    by_cases h0 : e = 0
    · rw [if_pos h0, h0, Nat.pow_zero]
    · rw [if_neg h0]
      have ih := pm_eq f (a * a % m) (e / 2) m (by rw [Nat.pow_succ] at h; omega)
      rw [← Nat.pow_mod] at ih
      rw [ih]
      by_cases h1 : e % 2 = 1
      · rw [if_pos h1]
        have : e = 2 * (e / 2) + 1 := by omega
        have e1 : a ^ e = (a * a) ^ (e / 2) * a := by
          rw [this, Nat.pow_succ, Nat.pow_mul, Nat.pow_two, show (2 * (e / 2) + 1) / 2 = e / 2 from by omega]
        rw [e1, Nat.mod_mul_mod]
      · rw [if_neg h1]
        have : e = 2 * (e / 2) := by omega
        have e1 : a ^ e = (a * a) ^ (e / 2) := by
          rw [this, Nat.pow_mul, Nat.pow_two, show (2 * (e / 2)) / 2 = e / 2 from by omega]
        rw [e1]

theorem half_of (a e m v : Nat) (h : e < 2 ^ 64) (hv : pm 64 a e m = v) : a ^ e % m = v := by
  rw [← pm_eq 64 a e m h]
  exact hv

/-- 2^64 - 2^32 + 1. -/
def goldP : Nat := 18446744069414584321
theorem gold_half (e : Nat) (he : e = 4294967295 * 2 ^ (32 - 1)) : 7 ^ e % goldP = goldP - 1 := half_of 7 e goldP _ (by rw [he]; decide +kernel) (by rw [he]; decide +kernel)
theorem gold_prime : Pr goldP := by
  obtain ⟨e, he⟩ : ∃ e, e = 4294967295 * 2 ^ (32 - 1) := ⟨_, rfl⟩
  exact proth goldP 4294967295 32 7 (by decide) (by decide +kernel) (by decide +kernel) (by decide +kernel) e he (gold_half e he)
theorem a_half (e : Nat) (he : e = 119 * 2 ^ (23 - 1)) : 3 ^ e % 998244353 = 998244353 - 1 := half_of 3 e 998244353 _ (by rw [he]; decide +kernel) (by rw [he]; decide +kernel)
theorem a_prime : Pr 998244353 := by
  obtain ⟨e, he⟩ : ∃ e, e = 119 * 2 ^ (23 - 1) := ⟨_, rfl⟩
  exact proth 998244353 119 23 3 (by decide) (by decide +kernel) (by decide +kernel) (by decide +kernel) e he (a_half e he)
theorem b_half (e : Nat) (he : e = 5 * 2 ^ (25 - 1)) : 3 ^ e % 167772161 = 167772161 - 1 := half_of 3 e 167772161 _ (by rw [he]; decide +kernel) (by rw [he]; decide +kernel)
theorem b_prime : Pr 167772161 := by
  obtain ⟨e, he⟩ : ∃ e, e = 5 * 2 ^ (25 - 1) := ⟨_, rfl⟩
  exact proth 167772161 5 25 3 (by decide) (by decide +kernel) (by decide +kernel) (by decide +kernel) e he (b_half e he)
theorem c_half (e : Nat) (he : e = 7 * 2 ^ (26 - 1)) : 3 ^ e % 469762049 = 469762049 - 1 := half_of 3 e 469762049 _ (by rw [he]; decide +kernel) (by rw [he]; decide +kernel)
theorem c_prime : Pr 469762049 := by
  obtain ⟨e, he⟩ : ∃ e, e = 7 * 2 ^ (26 - 1) := ⟨_, rfl⟩
  exact proth 469762049 7 26 3 (by decide) (by decide +kernel) (by decide +kernel) (by decide +kernel) e he (c_half e he)
end Plain
end Go.Proofs.YtiainhbkoehhjaaDoor
