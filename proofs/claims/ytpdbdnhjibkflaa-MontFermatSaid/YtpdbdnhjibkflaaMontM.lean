/-
  Plain arithmetic modulo an odd number, by Montgomery's form. No program in sight.
-/
import Derived.Laws.Bits64b
import Derived.IntWalk
import Derived.Lib.Hide
import Derived.Lib.BitFns
namespace Go.Proofs.Ytpdbdnhjibkflaa
open Go.RowKit
set_option linter.unusedVariables false

/-! ### The same modulo m -/
def Cg (m a b : Nat) : Prop := a % m = b % m
theorem Cg.refl (m a : Nat) : Cg m a a := rfl
theorem Cg.symm {m a b : Nat} (h : Cg m a b) : Cg m b a := Eq.symm h
theorem Cg.trans {m a b c : Nat} (h : Cg m a b) (k : Cg m b c) : Cg m a c := Eq.trans h k
theorem Cg.mul {m a b c d : Nat} (h : Cg m a b) (k : Cg m c d) : Cg m (a * c) (b * d) := by unfold Cg at *; rw [Nat.mul_mod, h, k, ← Nat.mul_mod]
theorem Cg.add {m a b c d : Nat} (h : Cg m a b) (k : Cg m c d) : Cg m (a + c) (b + d) := by unfold Cg at *; rw [Nat.add_mod, h, k, ← Nat.add_mod]
theorem Cg.pow {m a b : Nat} (h : Cg m a b) (n : Nat) : Cg m (a ^ n) (b ^ n) := by unfold Cg at *; rw [Nat.pow_mod, h, ← Nat.pow_mod]
theorem Cg.mod (m a : Nat) : Cg m (a % m) a := Nat.mod_mod a m
theorem Cg.of_eq {m a b : Nat} (h : a = b) : Cg m a b := by rw [h]; rfl
theorem Cg.eq {m a b : Nat} (h : Cg m a b) (ha : a < m) (hb : b < m) : a = b := by unfold Cg at h; rwa [Nat.mod_eq_of_lt ha, Nat.mod_eq_of_lt hb] at h
theorem Cg.over (m a k : Nat) : Cg m (a + k * m) a := Nat.add_mul_mod_self_right a k m

/-- Half of 1 modulo an odd m; what divides by 2^32. -/
def hf (m : Nat) : Nat := (m + 1) / 2
def ri (m : Nat) : Nat := hf m ^ 32
def rd (m t : Nat) : Nat := t * ri m % m
/-- A number in its form; one taken out. -/
def fm (m v : Nat) : Nat := v * 4294967296 % m

theorem hf_two (m : Nat) (h : m % 2 = 1) : 2 * hf m = m + 1 := by unfold hf; omega
theorem hf_cg (m : Nat) (h : m % 2 = 1) : Cg m (2 * hf m) 1 := by
  rw [hf_two m h]
  have := Cg.over m 1 1
  rwa [Nat.one_mul, Nat.add_comm] at this
theorem two32 : (2 : Nat) ^ 32 = 4294967296 := by decide
theorem ri_cg (m : Nat) (h : m % 2 = 1) : Cg m (4294967296 * ri m) 1 := by
  have e := (hf_cg m h).pow 32
  rw [Nat.mul_pow, Nat.one_pow, two32] at e
  exact e
theorem rd_lt (m t : Nat) (h : 0 < m) : rd m t < m := Nat.mod_lt _ h
theorem fm_lt (m v : Nat) (h : 0 < m) : fm m v < m := Nat.mod_lt _ h
theorem rd_cg (m t : Nat) : Cg m (rd m t) (t * ri m) := Cg.mod _ _
theorem fm_cg (m v : Nat) : Cg m (fm m v) (v * 4294967296) := Cg.mod _ _

theorem rd_back (m t : Nat) (h : m % 2 = 1) : Cg m (rd m t * 4294967296) t := by
  refine ((rd_cg m t).mul (Cg.refl m 4294967296)).trans ?_
  rw [Nat.mul_assoc, Nat.mul_comm (ri m)]
  have := (Cg.refl m t).mul (ri_cg m h)
  rwa [Nat.mul_one] at this
theorem rd_only (m r t : Nat) (h : m % 2 = 1) (hr : r < m) (e : Cg m (r * 4294967296) t) : r = rd m t := by
  refine Cg.eq (Cg.trans ?_ (rd_cg m t).symm) hr (rd_lt m t (by omega))
  refine Cg.trans ?_ (e.mul (Cg.refl m (ri m)))
  rw [Nat.mul_assoc]
  have := (Cg.refl m r).mul (ri_cg m h).symm
  rwa [Nat.mul_one] at this
/-- Products of forms are the forms of products. -/
theorem rd_fm (m x y : Nat) (h : m % 2 = 1) : rd m (fm m x * fm m y) = fm m (x * y) := by
  refine (rd_only m _ _ h (fm_lt m _ (by omega)) ?_).symm
  refine ((fm_cg m (x * y)).mul (Cg.refl m _)).trans (Cg.trans ?_ ((fm_cg m x).mul (fm_cg m y)).symm)
  exact Cg.of_eq (by simp only [Nat.mul_assoc, Nat.mul_left_comm])
theorem rd_of_fm (m x : Nat) (h : m % 2 = 1) : rd m (fm m x) = x % m := by
  refine (rd_only m _ _ h (Nat.mod_lt _ (by omega)) ?_).symm
  exact ((Cg.mod m x).mul (Cg.refl m _)).trans (fm_cg m x).symm
theorem fm_of_rd (m a : Nat) (h : m % 2 = 1) (ha : a < m) : fm m (rd m a) = a :=
  Cg.eq ((fm_cg m _).trans (rd_back m a h)) (fm_lt m _ (by omega)) ha
theorem fm_mod (m a : Nat) : fm m (a % m) = fm m a := by unfold fm; rw [Nat.mod_mul_mod]
theorem fm_same {m a b : Nat} (h : Cg m a b) : fm m a = fm m b := h.mul (Cg.refl m _)
/-- Taken in by the square. -/
theorem rd_sq (m a : Nat) (h : m % 2 = 1) : rd m (a * (fm m 1 * fm m 1 % m)) = fm m a := by
  refine (rd_only m _ _ h (fm_lt m _ (by omega)) ?_).symm
  refine ((fm_cg m a).mul (Cg.refl m _)).trans ((Cg.refl m a).mul (((Cg.mod m _).trans ((fm_cg m 1).mul (fm_cg m 1))).symm) |> Cg.trans (Cg.of_eq ?_))
  simp only [Nat.one_mul, Nat.mul_assoc]

/-! ### The last subtraction -/
def bel (m a : Nat) : Nat := if m ≤ a then a - m else a
theorem bel_mod (m a : Nat) (h : a < 2 * m) : bel m a = a % m := by
  unfold bel
  split
  · rename_i h1
    rw [Nat.mod_eq_sub_mod h1, Nat.mod_eq_of_lt (by omega)]
  · rw [Nat.mod_eq_of_lt (by omega)]

/-- Neg is what it must be. -/
def NegOk (m n : Nat) : Prop := (n * m + 1) % 4294967296 = 0
theorem redc_sum (m n t : Nat) (hn : NegOk m n) : (t + (t % 4294967296 * n % 4294967296) * m) % 4294967296 = 0 := by
  have e : Cg 4294967296 (t + (t % 4294967296 * n % 4294967296) * m) (t * (n * m + 1)) := by
    refine ((Cg.refl _ t).add (((Cg.mod _ _).trans ((Cg.mod _ t).mul (Cg.refl _ n))).mul (Cg.refl _ m))).trans (Cg.of_eq ?_)
    rw [Nat.mul_add, Nat.mul_one, Nat.mul_assoc, Nat.add_comm]
  refine Eq.trans e ?_
  rw [Nat.mul_mod, hn, Nat.mul_zero]
/-- The number q of Redc. -/
def rq (n t : Nat) : Nat := t % 4294967296 * n % 4294967296
def rs (m n t : Nat) : Nat := t + rq n t * m
theorem rq_lt (n t : Nat) : rq n t < 4294967296 := Nat.mod_lt _ (by decide)
theorem rqm_lt (m n t : Nat) (hm : m < 2147483648) : rq n t * m < 9223372036854775808 :=
  Nat.lt_of_lt_of_le (Nat.mul_lt_mul'' (rq_lt n t) hm) (by decide)
theorem tm_lt (m t : Nat) (hm : m < 2147483648) (ht : t < m * 4294967296) : t < 9223372036854775808 := by omega
theorem redc_eq (m n t : Nat) (h : m % 2 = 1) (hn : NegOk m n) (ht : t < m * 4294967296) : rs m n t / 4294967296 < 2 * m ∧ bel m (rs m n t / 4294967296) = rd m t := by
  have hs := redc_sum m n t hn
  have hq : rq n t * m < m * 4294967296 := by rw [Nat.mul_comm m]; exact Nat.mul_lt_mul_of_pos_right (rq_lt n t) (by omega)
  obtain ⟨u, hu⟩ : ∃ u, rs m n t / 4294967296 = u := ⟨_, rfl⟩
  have hu2 : rs m n t = u * 4294967296 := by
    have h1 : rs m n t % 4294967296 = 0 := hs
    omega
  rw [hu]
  have hlt : u < 2 * m := by
    have h2 : rs m n t = t + rq n t * m := rfl
    obtain ⟨z, hz⟩ : ∃ z, rq n t * m = z := ⟨_, rfl⟩
    rw [hz] at h2 hq
    omega
  refine ⟨hlt, ?_⟩
  rw [bel_mod m u hlt]
  refine rd_only m _ _ h (Nat.mod_lt _ (by omega)) ?_
  refine ((Cg.mod m u).mul (Cg.refl m _)).trans ?_
  rw [← hu2]
  exact Cg.over m t _

/-! ### Doubled again and again -/
theorem dbl_step (m a : Nat) (h : a < m) : bel m (2 * a) = 2 * a % m := bel_mod m _ (by omega)
def sh (m a k : Nat) : Nat := a * 2 ^ k % m
theorem sh_zero (m a : Nat) (h : a < m) : sh m a 0 = a := by unfold sh; rw [Nat.pow_zero, Nat.mul_one, Nat.mod_eq_of_lt h]
theorem sh_succ (m a k : Nat) (h : 0 < m) : bel m (2 * sh m a k) = sh m a (k + 1) := by
  rw [dbl_step m (sh m a k) (Nat.mod_lt _ h)]
  unfold sh
  rw [Nat.mul_mod_mod, Nat.pow_succ]
  congr 1
  simp only [Nat.mul_left_comm, Nat.mul_comm]
theorem sh_all (m a : Nat) : sh m a 32 = fm m a := by unfold sh fm; rw [two32]
theorem sh_lt (m a k : Nat) (h : 0 < m) : sh m a k < m := Nat.mod_lt _ h
end Go.Proofs.Ytpdbdnhjibkflaa
