/-
  Plain arithmetic of transforms (layer 9): sums; a transform as a sum of products with powers of a root of 1; its halves; the product of two; a transform twice. No program in sight.
-/
import Derived.Test.YtiainhbkoehhjaaDoorPk3
namespace Go.Proofs.YtiainhbkoehhjaaDoor
set_option linter.unusedVariables false

/-- The sum of the first n. -/
def sm : Nat → (Nat → Nat) → Nat
  | 0, _ => 0
  | n + 1, f => sm n f + f n
theorem sm_succ (n : Nat) (f : Nat → Nat) : sm (n + 1) f = sm n f + f n := rfl
theorem sm_congr {n : Nat} {f g : Nat → Nat} (h : ∀ i, i < n → f i = g i) : sm n f = sm n g := by
  induction n with
  | zero => rfl
  | succ n ih => rw [sm_succ, sm_succ, ih (fun i hi => h i (by omega)), h n (by omega)]
theorem sm_cg {m n : Nat} {f g : Nat → Nat} (h : ∀ i, i < n → Cg m (f i) (g i)) : Cg m (sm n f) (sm n g) := by
  induction n with
  | zero => exact Cg.refl _ _
  | succ n ih => exact (ih (fun i hi => h i (by omega))).add (h n (by omega))
theorem sm_add (n : Nat) (f g : Nat → Nat) : sm n (fun i => f i + g i) = sm n f + sm n g := by
  induction n with
  | zero => rfl
  | succ n ih => simp only [sm_succ, ih]; omega
theorem sm_mul (n c : Nat) (f : Nat → Nat) : sm n (fun i => c * f i) = c * sm n f := by
  induction n with
  | zero => rfl
  | succ n ih => simp only [sm_succ, ih, Nat.mul_add]
theorem sm_mul_right (n c : Nat) (f : Nat → Nat) : sm n (fun i => f i * c) = sm n f * c := by
  induction n with
  | zero => simp [sm]
  | succ n ih => simp only [sm_succ, ih, Nat.add_mul]
theorem sm_zero (n : Nat) : sm n (fun _ => 0) = 0 := by
  induction n with
  | zero => rfl
  | succ n ih => rw [sm_succ, ih]
theorem sm_const (n c : Nat) : sm n (fun _ => c) = n * c := by
  induction n with
  | zero => simp [sm]
  | succ n ih => rw [sm_succ, ih, Nat.add_mul, Nat.one_mul]
theorem sm_swap (n k : Nat) (f : Nat → Nat → Nat) : sm n (fun i => sm k (f i)) = sm k (fun j => sm n (fun i => f i j)) := by
  induction n with
  | zero => simp [sm, sm_zero]
  | succ n ih => rw [sm_succ, ih]; simp only [sm_succ]; rw [sm_add]
theorem sm_halves (h : Nat) (f : Nat → Nat) : sm (2 * h) f = sm h (fun i => f (2 * i)) + sm h (fun i => f (2 * i + 1)) := by
  induction h with
  | zero => rfl
  | succ h ih =>
    rw [show 2 * (h + 1) = 2 * h + 1 + 1 from by omega, sm_succ, sm_succ, ih, sm_succ, sm_succ]
    omega
theorem sm_split (a b : Nat) (f : Nat → Nat) : sm (a + b) f = sm a f + sm b (fun i => f (a + i)) := by
  induction b with
  | zero => rfl
  | succ b ih => rw [← Nat.add_assoc, sm_succ, ih, sm_succ]; omega
theorem sm_ext {n k : Nat} {f : Nat → Nat} (h : n ≤ k) (hz : ∀ i, n ≤ i → i < k → f i = 0) : sm k f = sm n f := by
  obtain ⟨d, rfl⟩ : ∃ d, k = n + d := ⟨k - n, by omega⟩
  have e : sm d (fun i => f (n + i)) = 0 := (sm_congr (g := fun _ => 0) fun i hi => hz (n + i) (by omega) (by omega)).trans (sm_zero d)
  rw [sm_split, e, Nat.add_zero]
theorem sm_single {m n i : Nat} {f : Nat → Nat} (hi : i < n) (h : ∀ j, j < n → j ≠ i → Cg m (f j) 0) : Cg m (sm n f) (f i) := by
  induction n with
  | zero => omega
  | succ n ih =>
    rw [sm_succ]
    by_cases e : i = n
    · subst e
      have h1 : Cg m (sm i f) (sm i fun _ => 0) := sm_cg fun j hj => h j (by omega) (by omega)
      rw [sm_zero] at h1
      have := h1.add (Cg.refl m (f i))
      rwa [Nat.zero_add] at this
    · have := (ih (by omega) (fun j hj hne => h j (by omega) hne)).add (h n (by omega) (fun e' => e e'.symm))
      rwa [Nat.add_zero] at this
theorem sm_first (n : Nat) (f : Nat → Nat) : sm (n + 1) f = f 0 + sm n (fun i => f (i + 1)) := by
  induction n with
  | zero => simp [sm]
  | succ n ih => rw [sm_succ, ih, sm_succ]; omega
theorem sm_turn (n : Nat) (f : Nat → Nat) : sm (n + 1) (fun i => f (n - i)) = sm (n + 1) f := by
  induction n generalizing f with
  | zero => rfl
  | succ n ih =>
    rw [sm_first, sm_succ (n + 1) f, ← ih f, Nat.sub_zero, Nat.add_comm]
    congr 1
    exact sm_congr fun i hi => by rw [show n + 1 - (i + 1) = n - i from by omega]
theorem sm_le {n c : Nat} {f : Nat → Nat} (h : ∀ i, i < n → f i ≤ c) : sm n f ≤ n * c := by
  induction n with
  | zero => simp [sm]
  | succ n ih =>
    have h1 := ih (fun i hi => h i (by omega))
    have h2 := h n (by omega)
    rw [sm_succ, Nat.add_mul, Nat.one_mul]
    omega

theorem Cg.cancel {m a b c : Nat} (h : Cg m (a + c) (b + c)) : Cg m a b := by
  by_cases hm : m = 0
  · subst hm
    unfold Cg at *
    rw [Nat.mod_zero, Nat.mod_zero] at *
    omega
  · have h1 := h.add (Cg.refl m (m - c % m))
    have e : ∀ x, Cg m (x + c + (m - c % m)) x := by
      intro x
      have h2 : Cg m c (c % m) := (Cg.mod m c).symm
      refine (((Cg.refl m x).add h2).add (Cg.refl m (m - c % m))).trans ?_
      have h3 : x + c % m + (m - c % m) = x + 1 * m := by
        have := Nat.mod_lt c (show 0 < m by omega)
        omega
      rw [h3]
      exact Cg.over m x 1
    exact (e a).symm.trans (h1.trans (e b))
theorem Cg.zero_mul {m a b : Nat} (h : Cg m a 0) : Cg m (a * b) 0 := by
  have := h.mul (Cg.refl m b)
  rwa [Nat.zero_mul] at this
theorem Cg.mul_zero {m a b : Nat} (h : Cg m b 0) : Cg m (a * b) 0 := by
  have := (Cg.refl m a).mul h
  rwa [Nat.mul_zero] at this

/-! ### A transform -/
/-- The place j of the transform of N places with the root v. -/
def dft (v N : Nat) (f : Nat → Nat) (j : Nat) : Nat := sm N fun i => f i * v ^ (i * j)
theorem dft_congr {v N : Nat} {f g : Nat → Nat} (h : ∀ i, i < N → f i = g i) (j : Nat) : dft v N f j = dft v N g j := sm_congr fun i hi => by rw [h i hi]
theorem dft_cg {m v N : Nat} {f g : Nat → Nat} (h : ∀ i, i < N → Cg m (f i) (g i)) (j : Nat) : Cg m (dft v N f j) (dft v N g j) := sm_cg fun i hi => (h i hi).mul (Cg.refl _ _)
theorem dft_one (v : Nat) (f : Nat → Nat) (j : Nat) : dft v 1 f j = f 0 := by simp [dft, sm]
/-- Its lower half. -/
theorem dft_low (v h : Nat) (f : Nat → Nat) (j : Nat) : dft v (2 * h) f j = dft (v ^ 2) h (fun i => f (2 * i)) j + v ^ j * dft (v ^ 2) h (fun i => f (2 * i + 1)) j := by
  unfold dft
  rw [sm_halves, ← sm_mul]
  congr 1
  · exact sm_congr fun i _ => by rw [← Nat.pow_mul, Nat.mul_assoc]
  · refine sm_congr fun i _ => ?_
    rw [← Nat.pow_mul, ← Nat.mul_assoc, Nat.mul_comm (v ^ j), Nat.mul_assoc, ← Nat.pow_add]
    congr 2
    rw [Nat.add_mul, Nat.one_mul, Nat.mul_assoc, Nat.add_comm]
/-- Behind as many places as the half has it begins anew. -/
theorem dft_round {m u h : Nat} (hu : Cg m (u ^ h) 1) (f : Nat → Nat) (j : Nat) : Cg m (dft u h f (j + h)) (dft u h f j) := by
  refine sm_cg fun i _ => (Cg.refl m (f i)).mul ?_
  rw [Nat.mul_add, Nat.pow_add, Nat.mul_comm i h, Nat.pow_mul u h i]
  have := (Cg.refl m (u ^ (i * j))).mul (hu.pow i)
  rwa [Nat.one_pow, Nat.mul_one] at this
theorem dft_high {m v h : Nat} (hv : Cg m (v ^ (2 * h)) 1) (f : Nat → Nat) (j : Nat) : Cg m (dft v (2 * h) f (j + h)) (dft (v ^ 2) h (fun i => f (2 * i)) j + v ^ (j + h) * dft (v ^ 2) h (fun i => f (2 * i + 1)) j) := by
  rw [dft_low]
  have hu : Cg m ((v ^ 2) ^ h) 1 := by rw [← Nat.pow_mul]; exact hv
  exact (dft_round hu _ j).add ((Cg.refl m _).mul (dft_round hu _ j))

/-! ### The product of two transforms -/
theorem getD_over {l : List Nat} {i : Nat} (h : l.length ≤ i) : l.getD i 0 = 0 := by
  rw [List.getD_eq_getElem?_getD, List.getElem?_eq_none h]; rfl
/-- The sum of one row's term with the whole other row. -/
theorem ct_sum (a b : List Nat) (x i L : Nat) (hL : i + b.length ≤ L) : sm L (fun n => ct a b i n * x ^ n) = a.getD i 0 * x ^ i * sm b.length (fun q => b.getD q 0 * x ^ q) := by
  obtain ⟨d, rfl⟩ : ∃ d, L = i + (b.length + d) := ⟨L - i - b.length, by omega⟩
  rw [sm_split, sm_congr (g := fun _ => 0) (fun n hn => by unfold ct; rw [if_neg (by omega), Nat.zero_mul]), sm_zero, Nat.zero_add, ← sm_mul]
  rw [sm_ext (n := b.length) (by omega) (fun q h1 _ => by unfold ct; rw [if_pos (by omega), show i + q - i = q from by omega, getD_over h1, Nat.mul_zero, Nat.zero_mul])]
  refine sm_congr fun q _ => ?_
  unfold ct
  rw [if_pos (by omega), show i + q - i = q from by omega, Nat.pow_add]
  simp only [Nat.mul_assoc, Nat.mul_left_comm]
theorem cv_sum (a b : List Nat) (x L : Nat) : ∀ k, k + b.length ≤ L + 1 → sm L (fun n => cv a b k n * x ^ n) = sm k (fun i => a.getD i 0 * x ^ i) * sm b.length (fun q => b.getD q 0 * x ^ q) := by
  intro k
  induction k with
  | zero => intro _; rw [sm_congr (g := fun _ => 0) (fun n _ => by show 0 * _ = 0; rw [Nat.zero_mul]), sm_zero]; exact (Nat.zero_mul _).symm
  | succ k ih =>
    intro h
    have e : ∀ n, cv a b (k + 1) n * x ^ n = cv a b k n * x ^ n + ct a b k n * x ^ n := fun n => by show (cv a b k n + ct a b k n) * x ^ n = _; rw [Nat.add_mul]
    rw [sm_congr (fun n _ => e n), sm_add, ih (by omega), ct_sum a b x k L (by omega), sm_succ, Nat.add_mul]
/-- The transform of a row. -/
theorem dft_prod (a b : List Nat) (v N j : Nat) (ha : 0 < a.length) (hb : 0 < b.length) (hN : a.length + b.length ≤ N + 1) : dft v N (fun i => a.getD i 0) j * dft v N (fun i => b.getD i 0) j = dft v N (fun n => cv a b a.length n) j := by
  have e : ∀ f : Nat → Nat, dft v N f j = sm N fun i => f i * (v ^ j) ^ i := fun f => sm_congr fun i _ => by rw [Nat.mul_comm i j, Nat.pow_mul]
  rw [e, e, e, cv_sum a b (v ^ j) N a.length hN]
  congr 1
  · exact sm_ext (by omega) fun i h _ => by rw [getD_over h, Nat.zero_mul]
  · exact sm_ext (by omega) fun i h _ => by rw [getD_over h, Nat.zero_mul]

/-! ### A transform twice -/
/-- The powers of u, as many as 2^k, come to a product. -/
theorem geo (u : Nat) : ∀ k, sm (2 ^ (k + 1)) (fun i => u ^ i) = (1 + u) * sm (2 ^ k) (fun i => (u ^ 2) ^ i) := by
  intro k
  rw [Nat.pow_succ, Nat.mul_comm (2 ^ k) 2, sm_halves, Nat.add_mul, Nat.one_mul, ← sm_mul]
  congr 1
  · exact sm_congr fun i _ => by rw [Nat.pow_mul]
  · exact sm_congr fun i _ => by rw [Nat.pow_succ, Nat.pow_mul, Nat.mul_comm]
theorem geo_zero {m : Nat} : ∀ (k s u : Nat), s < k → Cg m (1 + u ^ 2 ^ s) 0 → Cg m (sm (2 ^ k) (fun i => u ^ i)) 0 := by
  intro k
  induction k with
  | zero => intro s u h; omega
  | succ k ih =>
    intro s u h hz
    rw [geo]
    cases s with
    | zero => rw [Nat.pow_zero, Nat.pow_one] at hz; exact hz.zero_mul
    | succ s =>
      refine Cg.mul_zero (ih s (u ^ 2) (by omega) ?_)
      rw [← Nat.pow_mul, Nat.mul_comm 2, ← Nat.pow_succ]
      exact hz
theorem odd_neg {m x : Nat} (h : Cg m (1 + x) 0) : ∀ d, Cg m (1 + x ^ (2 * d + 1)) 0 := by
  have h2 : Cg m (x ^ 2) 1 := by
    -- x·(1 + x) = x + x^2 and 1 + x are both 0
    have h1 : Cg m (x ^ 2 + x) 0 := by
      have := Cg.mul_zero (a := x) h
      rwa [Nat.mul_add, Nat.mul_one, Nat.add_comm, ← Nat.pow_two] at this
    exact Cg.cancel (h1.trans h.symm)
  intro d
  rw [Nat.pow_succ, Nat.pow_mul]
  refine Cg.trans ((Cg.refl m 1).add ((h2.pow d).mul (Cg.refl m x))) ?_
  rw [Nat.one_pow, Nat.one_mul]
  exact h
theorem two_odd : ∀ (d : Nat), 0 < d → ∃ t e, d = 2 ^ t * (2 * e + 1) := by
  intro d
  induction d using Nat.strongRecOn with
  | ind d ih =>
    intro h
    rcases Nat.mod_two_eq_zero_or_one d with h0 | h1
    · obtain ⟨t, e, he⟩ := ih (d / 2) (by omega) (by omega)
      refine ⟨t + 1, e, ?_⟩
      rw [Nat.pow_succ, Nat.mul_comm (2 ^ t) 2, Nat.mul_assoc, ← he]
      omega
    · exact ⟨0, d / 2, by rw [Nat.pow_zero]; omega⟩
/-- The powers of a root's power come to 0, unless that is 1. -/
theorem root_sum {m v k d : Nat} (hv : ∀ j, k = j + 1 → Cg m (1 + v ^ 2 ^ j) 0) (h1 : Cg m (v ^ 2 ^ k) 1) : (d % 2 ^ k = 0 → Cg m (sm (2 ^ k) fun i => (v ^ d) ^ i) (2 ^ k)) ∧ (d % 2 ^ k ≠ 0 → Cg m (sm (2 ^ k) fun i => (v ^ d) ^ i) 0) := by
  constructor
  · intro h
    have e : Cg m (v ^ d) 1 := by
      have hd := Nat.div_add_mod d (2 ^ k)
      rw [h, Nat.add_zero] at hd
      rw [← hd, Nat.pow_mul]
      have := h1.pow (d / 2 ^ k)
      rwa [Nat.one_pow] at this
    have h2 : Cg m (sm (2 ^ k) fun i => (v ^ d) ^ i) (sm (2 ^ k) fun _ => 1) := sm_cg fun i _ => by have := e.pow i; rwa [Nat.one_pow] at this
    rwa [sm_const, Nat.mul_one] at h2
  · intro h
    obtain ⟨t, e, he⟩ := two_odd d (by
      rcases Nat.eq_zero_or_pos d with h0 | h0
      · subst h0; exact absurd (Nat.zero_mod _) h
      · exact h0)
    have ht : t < k := by
      rcases Nat.lt_or_ge t k with h' | h'
      · exact h'
      · exfalso
        apply h
        obtain ⟨c, hc⟩ : ∃ c, t = k + c := ⟨t - k, by omega⟩
        rw [he, hc, Nat.pow_add, Nat.mul_assoc]
        exact Nat.mul_mod_right _ _
    refine geo_zero k (k - 1 - t) _ (by omega) ?_
    have e2 : (v ^ d) ^ 2 ^ (k - 1 - t) = (v ^ 2 ^ (k - 1)) ^ (2 * e + 1) := by
      rw [← Nat.pow_mul, ← Nat.pow_mul, he]
      congr 1
      have : 2 ^ (k - 1) = 2 ^ t * 2 ^ (k - 1 - t) := by rw [← Nat.pow_add]; congr 1; omega
      rw [this]
      simp only [Nat.mul_assoc, Nat.mul_comm (2 ^ (k - 1 - t))]
    rw [e2]
    exact odd_neg (hv (k - 1) (by omega)) e
theorem dft_twice {m v k : Nat} (hv : ∀ j, k = j + 1 → Cg m (1 + v ^ 2 ^ j) 0) (h1 : Cg m (v ^ 2 ^ k) 1) (f : Nat → Nat) (t : Nat) (ht : t < 2 ^ k) :
    Cg m (dft v (2 ^ k) (dft v (2 ^ k) f) t) (2 ^ k * f ((2 ^ k - t) % 2 ^ k)) := by
  have hp : 0 < 2 ^ k := Nat.pow_pos (by decide)
  have e : dft v (2 ^ k) (dft v (2 ^ k) f) t = sm (2 ^ k) fun i => f i * sm (2 ^ k) fun j => (v ^ (i + t)) ^ j := by
    unfold dft
    rw [sm_congr (g := fun j => sm (2 ^ k) fun i => f i * v ^ (i * j) * v ^ (j * t)) (fun j _ => (sm_mul_right _ _ _).symm), sm_swap]
    refine sm_congr fun i _ => ?_
    rw [← sm_mul]
    refine sm_congr fun j _ => ?_
    rw [Nat.mul_assoc, ← Nat.pow_add, ← Nat.pow_mul]
    congr 2
    rw [Nat.add_mul, Nat.mul_comm j t]
  rw [e]
  obtain ⟨i0, hi0⟩ : ∃ i0, (2 ^ k - t) % 2 ^ k = i0 := ⟨_, rfl⟩
  rw [hi0]
  have hlt : i0 < 2 ^ k := by rw [← hi0]; exact Nat.mod_lt _ hp
  have hmod : (i0 + t) % 2 ^ k = 0 := by
    rw [← hi0]
    by_cases h0 : t = 0
    · subst h0; rw [Nat.sub_zero, Nat.mod_self, Nat.add_zero, Nat.zero_mod]
    · have h2 : (2 ^ k - t) % 2 ^ k = 2 ^ k - t := Nat.mod_eq_of_lt (by omega)
      rw [h2, Nat.sub_add_cancel (Nat.le_of_lt ht), Nat.mod_self]
  refine (sm_single hlt (fun j hj hne => ?_)).trans ?_
  · refine Cg.mul_zero ((root_sum hv h1).2 ?_)
    intro h
    apply hne
    have h3 : (j + t) % 2 ^ k = (i0 + t) % 2 ^ k := by rw [h, hmod]
    have := Cg.cancel (m := 2 ^ k) (a := j) (b := i0) (c := t) h3
    exact this.eq hj hlt
  · rw [Nat.mul_comm (2 ^ k)]
    exact (Cg.refl m _).mul ((root_sum hv h1).1 hmod)
end Go.Proofs.YtiainhbkoehhjaaDoor
