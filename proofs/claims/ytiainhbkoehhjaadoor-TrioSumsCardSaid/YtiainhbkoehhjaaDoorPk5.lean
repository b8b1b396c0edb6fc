/-
  Plain arithmetic of fast transforms (layer 9): bits the other way round; what lies in a row between two stages; the roots of 1 modulo the three primes. No program in sight.
-/
import Derived.Test.YtiainhbkoehhjaaDoorPk4
import Derived.Test.YtiainhbkoehhjaaDoorFermat
namespace Go.Proofs.YtiainhbkoehhjaaDoor
open Plain (Pr a_prime b_prime c_prime a_half b_half c_half fermat_one)
set_option linter.unusedVariables false

/-! ### Bits the other way round -/
def rv : Nat → Nat → Nat
  | 0, _ => 0
  | t + 1, q => rv t (q / 2) + 2 ^ t * (q % 2)
theorem rv_lt : ∀ t q, rv t q < 2 ^ t := by
  intro t
  induction t with
  | zero => intro q; simp [rv]
  | succ t ih =>
    intro q
    have h := ih (q / 2)
    show rv t (q / 2) + 2 ^ t * (q % 2) < 2 ^ (t + 1)
    rw [Nat.pow_succ]
    rcases Nat.mod_two_eq_zero_or_one q with e | e <;> rw [e] <;> omega
theorem rv_even (t q : Nat) : rv (t + 1) (2 * q) = rv t q := by
  show rv t (2 * q / 2) + 2 ^ t * (2 * q % 2) = _
  rw [Nat.mul_mod_right, Nat.mul_zero, Nat.add_zero, Nat.mul_div_cancel_left _ (by decide)]
theorem rv_odd (t q : Nat) : rv (t + 1) (2 * q + 1) = rv t q + 2 ^ t := by
  show rv t ((2 * q + 1) / 2) + 2 ^ t * ((2 * q + 1) % 2) = _
  rw [show (2 * q + 1) / 2 = q from by omega, show (2 * q + 1) % 2 = 1 from by omega, Nat.mul_one]
theorem rv_bit : ∀ (t q i : Nat), i < t → (rv t q).testBit i = q.testBit (t - 1 - i) := by
  intro t
  induction t with
  | zero => intro q i h; omega
  | succ t ih =>
    intro q i h
    show (rv t (q / 2) + 2 ^ t * (q % 2)).testBit i = _
    rw [Nat.add_comm, Nat.testBit_two_pow_mul_add _ (rv_lt t _)]
    by_cases hi : i < t
    · rw [if_pos hi, ih _ _ hi, show t + 1 - 1 - i = t - 1 - i + 1 from by omega, Nat.testBit_succ]
    · have : i = t := by omega
      subst this
      rw [if_neg (by omega), Nat.sub_self, show i + 1 - 1 - i = 0 from by omega]
      simp [Nat.testBit_zero]
theorem rv_over (t q i : Nat) (h : t ≤ i) : (rv t q).testBit i = false :=
  Nat.testBit_lt_two_pow (Nat.lt_of_lt_of_le (rv_lt t q) (Nat.pow_le_pow_right (by decide) h))
theorem rv_rv (k q : Nat) (h : q < 2 ^ k) : rv k (rv k q) = q := by
  refine Nat.eq_of_testBit_eq fun i => ?_
  by_cases hi : i < k
  · rw [rv_bit k _ i hi, rv_bit k _ _ (by omega), show k - 1 - (k - 1 - i) = i from by omega]
  · rw [rv_over k _ i (by omega), Nat.testBit_lt_two_pow (Nat.lt_of_lt_of_le h (Nat.pow_le_pow_right (by decide) (by omega)))]

/-- A row in which the first i places have been turned with those of their bits the other way round. -/
def trn (k i : Nat) (f : Nat → Nat) (p : Nat) : Nat := if p < i ∧ rv k p < i then f (rv k p) else f p
theorem trn_zero (k : Nat) (f : Nat → Nat) (p : Nat) : trn k 0 f p = f p := if_neg (by omega)
theorem trn_all (k : Nat) (f : Nat → Nat) (p : Nat) (h : p < 2 ^ k) : trn k (2 ^ k) f p = f (rv k p) := if_pos ⟨h, rv_lt k p⟩
/-- One round: nothing to be done, as the other place isn't ahead. -/
theorem trn_stay {k i : Nat} (hi : i < 2 ^ k) (h : ¬ rv k i < i) (f : Nat → Nat) (p : Nat) (hp : p < 2 ^ k) : trn k (i + 1) f p = trn k i f p := by
  unfold trn
  by_cases e : p = i
  · subst e
    rw [if_neg (c := p < p ∧ _) (by omega)]
    by_cases e2 : rv k p = p
    · rw [e2, if_pos (by omega)]
    · rw [if_neg (by omega)]
  · by_cases e2 : rv k p = i
    · have e3 : p = rv k i := by rw [← e2, rv_rv k p hp]
      rw [e2, if_neg (by omega), if_neg (by omega)]
    · by_cases h1 : p < i ∧ rv k p < i
      · rw [if_pos h1, if_pos (by omega)]
      · rw [if_neg h1, if_neg (by omega)]
/-- .. the two places change. -/
theorem trn_swap {k i j : Nat} (hi : i < 2 ^ k) (hj : rv k i = j) (h : j < i) (f : Nat → Nat) : trn k i f i = f i ∧ trn k i f j = f j ∧ trn k (i + 1) f i = f j ∧ trn k (i + 1) f j = f i ∧ ∀ p, p < 2 ^ k → p ≠ i → p ≠ j → trn k (i + 1) f p = trn k i f p := by
  have hji : rv k j = i := by rw [← hj, rv_rv k i hi]
  unfold trn
  refine ⟨if_neg (by omega), if_neg (by omega), ?_, ?_, fun p hp h1 h2 => ?_⟩
  · rw [hj, if_pos (by omega)]
  · rw [hji, if_pos (by omega)]
  · have h3 : rv k p ≠ i := fun e => h2 (by rw [← hj, ← e, rv_rv k p hp])
    have h4 : rv k p ≠ j := fun e => h1 (by rw [← hji, ← e, rv_rv k p hp])
    by_cases h5 : p < i ∧ rv k p < i
    · rw [if_pos h5, if_pos (by omega)]
    · rw [if_neg h5, if_neg (by omega)]

/-! ### Between two stages -/
/-- A root of 1 of the order 2^s. -/
def vr (m s : Nat) : Nat := 3 ^ ((m - 1) / 2 ^ s)
/-- What lies in the place p when the blocks are as long as 2^s. -/
def st (m k : Nat) (f : Nat → Nat) (s p : Nat) : Nat := dft (vr m s) (2 ^ s) (fun i => f (rv (k - s) (p / 2 ^ s) + i * 2 ^ (k - s))) (p % 2 ^ s)
theorem st_zero (m k : Nat) (f : Nat → Nat) (p : Nat) : st m k f 0 p = f (rv k p) := by
  unfold st
  rw [Nat.pow_zero, dft_one, Nat.zero_mul, Nat.add_zero, Nat.div_one, Nat.sub_zero]
theorem st_all (m k : Nat) (f : Nat → Nat) (p : Nat) (hp : p < 2 ^ k) : st m k f k p = dft (vr m k) (2 ^ k) f p := by
  unfold st
  rw [Nat.mod_eq_of_lt hp]
  refine dft_congr (fun i _ => ?_) p
  rw [Nat.sub_self, Nat.pow_zero, Nat.mul_one]
  show f (rv 0 _ + i) = f i
  rw [show rv 0 (p / 2 ^ k) = 0 from rfl, Nat.zero_add]
theorem st_half {k s : Nat} (hs : s < k) (f : Nat → Nat) (q j : Nat) (hj : j < 2 ^ s) (m : Nat) :
    st m k f s (q * 2 ^ (s + 1) + j) = dft (vr m s) (2 ^ s) (fun i => f (rv (k - (s + 1)) q + 2 * i * 2 ^ (k - (s + 1)))) j ∧
    st m k f s (q * 2 ^ (s + 1) + 2 ^ s + j) = dft (vr m s) (2 ^ s) (fun i => f (rv (k - (s + 1)) q + (2 * i + 1) * 2 ^ (k - (s + 1)))) j := by
  have hp : 0 < 2 ^ s := Nat.pow_pos (by decide)
  have e1 : q * 2 ^ (s + 1) + j = 2 * q * 2 ^ s + j := by rw [Nat.pow_succ, Nat.mul_comm (2 ^ s), ← Nat.mul_assoc, Nat.mul_comm q 2]
  have e2 : q * 2 ^ (s + 1) + 2 ^ s + j = (2 * q + 1) * 2 ^ s + j := by rw [Nat.pow_succ, Nat.mul_comm (2 ^ s), ← Nat.mul_assoc, Nat.mul_comm q 2, Nat.add_mul, Nat.one_mul]
  have d : ∀ a, (a * 2 ^ s + j) / 2 ^ s = a ∧ (a * 2 ^ s + j) % 2 ^ s = j := fun a => by
    rw [Nat.mul_comm, Nat.mul_add_div hp, Nat.mul_add_mod, Nat.div_eq_of_lt hj, Nat.mod_eq_of_lt hj]; exact ⟨rfl, rfl⟩
  obtain ⟨t, ht⟩ : ∃ t, k - (s + 1) = t := ⟨_, rfl⟩
  have hks : k - s = t + 1 := by omega
  constructor
  · rw [e1]; unfold st; rw [(d _).1, (d _).2, hks, ht, rv_even]
    refine dft_congr (fun i _ => ?_) j
    rw [Nat.pow_succ, Nat.mul_comm (2 ^ t) 2, ← Nat.mul_assoc, Nat.mul_comm i 2]
  · rw [e2]; unfold st; rw [(d _).1, (d _).2, hks, ht, rv_odd]
    refine dft_congr (fun i _ => ?_) j
    rw [Nat.pow_succ, Nat.mul_comm (2 ^ t) 2, ← Nat.mul_assoc, Nat.mul_comm i 2, Nat.add_mul (2 * i) 1, Nat.one_mul, Nat.add_assoc, Nat.add_comm (2 ^ t)]
theorem st_both {m k s : Nat} (hs : s < k) (hv : vr m (s + 1) ^ 2 = vr m s) (h1 : Cg m (vr m (s + 1) ^ 2 ^ (s + 1)) 1) (f : Nat → Nat) (q j : Nat) (hj : j < 2 ^ s) :
    st m k f (s + 1) (q * 2 ^ (s + 1) + j) = st m k f s (q * 2 ^ (s + 1) + j) + vr m (s + 1) ^ j * st m k f s (q * 2 ^ (s + 1) + 2 ^ s + j) ∧
    Cg m (st m k f (s + 1) (q * 2 ^ (s + 1) + 2 ^ s + j)) (st m k f s (q * 2 ^ (s + 1) + j) + vr m (s + 1) ^ (j + 2 ^ s) * st m k f s (q * 2 ^ (s + 1) + 2 ^ s + j)) := by
  obtain ⟨a1, a2⟩ := st_half hs f q j hj m
  have hp : 0 < 2 ^ (s + 1) := Nat.pow_pos (by decide)
  have hps : 2 ^ (s + 1) = 2 * 2 ^ s := by rw [Nat.pow_succ, Nat.mul_comm]
  have d : ∀ c, c < 2 ^ (s + 1) → (q * 2 ^ (s + 1) + c) / 2 ^ (s + 1) = q ∧ (q * 2 ^ (s + 1) + c) % 2 ^ (s + 1) = c := fun c hc => by
    rw [Nat.mul_comm, Nat.mul_add_div hp, Nat.mul_add_mod, Nat.div_eq_of_lt hc, Nat.mod_eq_of_lt hc]; exact ⟨rfl, rfl⟩
  rw [a1, a2, ← hv]
  constructor
  · unfold st
    rw [(d j (by omega)).1, (d j (by omega)).2]
    have := dft_low (vr m (s + 1)) (2 ^ s) (fun i => f (rv (k - (s + 1)) q + i * 2 ^ (k - (s + 1)))) j
    rw [← hps] at this
    exact this
  · rw [Nat.add_assoc]
    unfold st
    rw [(d (2 ^ s + j) (by omega)).1, (d (2 ^ s + j) (by omega)).2, Nat.add_comm (2 ^ s) j]
    have := dft_high (m := m) (v := vr m (s + 1)) (h := 2 ^ s) (by rw [← hps]; exact h1) (fun i => f (rv (k - (s + 1)) q + i * 2 ^ (k - (s + 1)))) j
    rw [← hps] at this
    exact this

/-! ### In the form -/
theorem fm_add (m x y : Nat) (h : 0 < m) : bel m (fm m x + fm m y) = fm m (x + y) := by
  have h1 := fm_lt m x h
  have h2 := fm_lt m y h
  rw [bel_mod m _ (by omega)]
  refine Cg.eq (((Cg.mod m _).trans ((fm_cg m x).add (fm_cg m y))).trans (Cg.trans (Cg.of_eq ?_) (fm_cg m _).symm)) (Nat.mod_lt _ h) (fm_lt _ _ h)
  rw [Nat.add_mul]
theorem fm_sub (m x y u : Nat) (h : 0 < m) (hu : Cg m (1 + u) 0) : bel m (fm m x + m - fm m y) = fm m (x + u * y) := by
  have h1 := fm_lt m x h
  have h2 := fm_lt m y h
  rw [bel_mod m _ (by omega)]
  refine Cg.eq (Cg.trans (Cg.mod m _) (Cg.cancel (c := fm m y) ?_)) (Nat.mod_lt _ h) (fm_lt _ _ h)
  rw [Nat.sub_add_cancel (by omega)]
  have e1 : Cg m (fm m x + m) (x * 4294967296) := by
    have := Cg.over m (fm m x) 1
    rw [Nat.one_mul] at this
    exact Cg.trans this (fm_cg m x)
  refine e1.trans (Cg.symm (Cg.trans ((fm_cg m _).add (fm_cg m y)) ?_))
  have e2 : (x + u * y) * 4294967296 + y * 4294967296 = x * 4294967296 + (1 + u) * (y * 4294967296) := by
    rw [Nat.add_mul, Nat.add_mul 1 u, Nat.one_mul, Nat.mul_assoc u]; omega
  rw [e2]
  have := (Cg.refl m (x * 4294967296)).add (hu.zero_mul (b := y * 4294967296))
  rwa [Nat.add_zero] at this

/-! ### The three primes -/
/-- One of the three primes. -/
def P3 (m : Nat) : Prop := m = 998244353 ∨ m = 167772161 ∨ m = 469762049
theorem P3.ge {m : Nat} (h : P3 m) : 3 ≤ m ∧ m < 2147483648 := by rcases h with h | h | h <;> omega
theorem P3.odd {m : Nat} (h : P3 m) : m % 2 = 1 := by rcases h with h | h | h <;> omega
theorem P3.lt {m : Nat} (h : P3 m) : m < 1073741824 := by rcases h with h | h | h <;> omega
theorem P3.dvd {m : Nat} (h : P3 m) : ∃ c, m - 1 = c * 2 ^ 23 := by
  rcases h with h | h | h <;> subst h
  · exact ⟨119, by decide⟩
  · exact ⟨20, by decide⟩
  · exact ⟨56, by decide⟩
theorem P3.pr {m : Nat} (h : P3 m) : Pr m := by
  rcases h with h | h | h <;> subst h
  · exact a_prime
  · exact b_prime
  · exact c_prime
theorem P3.half {m : Nat} (h : P3 m) (e : Nat) (he : e = (m - 1) / 2) : 3 ^ e % m = m - 1 := by
  rcases h with h | h | h <;> subst h
  · exact a_half e (by rw [he])
  · exact b_half e (by rw [he])
  · exact c_half e (by rw [he])
theorem P3.part {m : Nat} (h : P3 m) (s j : Nat) (hs : s ≤ 23) (hj : j ≤ s) : (m - 1) / 2 ^ s * 2 ^ j = (m - 1) / 2 ^ (s - j) := by
  obtain ⟨c, hc⟩ := h.dvd
  have e : ∀ t, t ≤ 23 → c * 2 ^ 23 / 2 ^ t = c * 2 ^ (23 - t) := fun t ht => by
    have : 2 ^ 23 = 2 ^ t * 2 ^ (23 - t) := by rw [← Nat.pow_add]; congr 1; omega
    rw [this, Nat.mul_left_comm, Nat.mul_div_cancel_left _ (Nat.pow_pos (by decide))]
  rw [hc, e s hs, e (s - j) (by omega), Nat.mul_assoc, ← Nat.pow_add]
  congr 2
  omega
theorem vr_pow {m : Nat} (h : P3 m) (s j : Nat) (hs : s ≤ 23) (hj : j ≤ s) : vr m s ^ 2 ^ j = vr m (s - j) := by
  unfold vr
  rw [← Nat.pow_mul, h.part s j hs hj]
theorem vr_sq {m : Nat} (h : P3 m) (s : Nat) (hs : s < 23) : vr m (s + 1) ^ 2 = vr m s := by
  have := vr_pow h (s + 1) 1 (by omega) (by omega)
  rwa [Nat.pow_one] at this
theorem vr_neg {m : Nat} (h : P3 m) : Cg m (1 + vr m 1) 0 := by
  have h1 := h.half _ rfl
  have h2 := h.ge
  have e : Cg m (vr m 1) (m - 1) := by
    show vr m 1 % m = (m - 1) % m
    unfold vr
    rw [Nat.pow_one, h1, Nat.mod_eq_of_lt (by omega)]
  refine Cg.trans ((Cg.refl m 1).add e) ?_
  rw [show 1 + (m - 1) = 0 + 1 * m from by omega]
  exact Cg.over m 0 1
theorem vr_half {m : Nat} (h : P3 m) (k : Nat) (hk : k ≤ 23) : ∀ j, k = j + 1 → Cg m (1 + vr m k ^ 2 ^ j) 0 := by
  intro j hj
  rw [vr_pow h k j hk (by omega), show k - j = 1 from by omega]
  exact vr_neg h
theorem vr_full {m : Nat} (h : P3 m) (k : Nat) (hk : k ≤ 23) : Cg m (vr m k ^ 2 ^ k) 1 := by
  rw [vr_pow h k k hk (Nat.le_refl _), Nat.sub_self, ← vr_pow h 1 1 (by decide) (by decide)]
  have h2 := vr_neg h
  -- x² + x and 1 + x are both 0
  have h3 := Cg.mul_zero (a := vr m 1) h2
  rw [Nat.mul_add, Nat.mul_one, Nat.add_comm, ← Nat.pow_two] at h3
  exact Cg.cancel (h3.trans h2.symm)
end Go.Proofs.YtiainhbkoehhjaaDoor
