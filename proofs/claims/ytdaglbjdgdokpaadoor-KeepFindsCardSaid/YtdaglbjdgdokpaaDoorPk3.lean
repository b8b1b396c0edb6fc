/-
  Plain arithmetic of checksums (layer 14): the register bit by bit, that one bit alone always shows. No program in sight.
-/
import Derived.Test.YtdaglbjdgdokpaaDoorPk1
namespace Go.Proofs.YtdaglbjdgdokpaaDoor
set_option linter.unusedVariables false

/-- One bit is taken in. -/
def crBit (v b : Nat) : Nat := if v % 2 = b then v / 2 else v / 2 ^^^ 3988292384
theorem p32 : (2 : Nat) ^ 32 = 4294967296 := by decide
theorem crBit_lt {v b : Nat} (h : v < 4294967296) : crBit v b < 4294967296 := by
  unfold crBit
  split
  · omega
  · have := Nat.xor_lt_two_pow (x := v / 2) (y := 3988292384) (n := 32) (by rw [p32]; omega) (by decide)
    rwa [p32] at this
/-- The highest bit tells whether the polynomial was taken in. -/
theorem poly_top {v : Nat} (h : v < 4294967296) : (v / 2).testBit 31 = false ∧ (v / 2 ^^^ 3988292384).testBit 31 = true := by
  have h1 : (v / 2).testBit 31 = false := Nat.testBit_lt_two_pow (by have : (2 : Nat) ^ 31 = 2147483648 := by decide
                                                                     omega)
  refine ⟨h1, ?_⟩
  rw [Nat.testBit_xor, h1]
  decide
theorem crBit_inj {v u b : Nat} (hv : v < 4294967296) (hu : u < 4294967296) (hb : b < 2) (h : crBit v b = crBit u b) : v = u := by
  unfold crBit at h
  have t1 := poly_top hv
  have t2 := poly_top hu
  split at h <;> split at h
  · omega
  · rw [h] at t1; exact absurd t2.2 (by rw [t1.1]; decide)
  · rw [h] at t1; exact absurd t1.2 (by rw [t2.1]; decide)
  · have h2 : v / 2 ^^^ 3988292384 ^^^ 3988292384 = u / 2 ^^^ 3988292384 ^^^ 3988292384 := by rw [h]
    rw [Nat.xor_assoc, Nat.xor_assoc, Nat.xor_self, Nat.xor_zero, Nat.xor_zero] at h2
    omega
theorem crBit_ne {v b c : Nat} (hv : v < 4294967296) (hb : b < 2) (hc : c < 2) (h : b ≠ c) : crBit v b ≠ crBit v c := by
  have t1 := poly_top hv
  have hne : v / 2 ≠ v / 2 ^^^ 3988292384 := fun e => by
    have e2 := t1.2
    rw [← e, t1.1] at e2
    exact absurd e2 (by decide)
  unfold crBit
  by_cases h1 : v % 2 = b
  · rw [if_pos h1, if_neg (by omega)]; exact hne
  · by_cases h2 : v % 2 = c
    · rw [if_neg h1, if_pos h2]; exact Ne.symm hne
    · omega

/-- k bits of a byte are taken in. -/
def crK (v x : Nat) : Nat → Nat
  | 0 => v
  | k + 1 => crBit (crK v x k) (x / 2 ^ k % 2)
theorem crK_lt {v x : Nat} (h : v < 4294967296) : ∀ k, crK v x k < 4294967296
  | 0 => h
  | k + 1 => crBit_lt (crK_lt h k)
theorem crK_inj {v u x : Nat} (hv : v < 4294967296) (hu : u < 4294967296) : ∀ k, crK v x k = crK u x k → v = u
  | 0, h => h
  | k + 1, h => crK_inj hv hu k (crBit_inj (crK_lt hv k) (crK_lt hu k) (Nat.mod_lt _ (by decide)) h)
theorem crK_same {v x y k : Nat} (h : ∀ j, j < k → x / 2 ^ j % 2 = y / 2 ^ j % 2) : crK v x k = crK v y k := by
  induction k with
  | zero => rfl
  | succ k ih =>
    unfold crK
    rw [ih (fun j hj => h j (by omega)), h k (by omega)]
/-- Two bytes that differ in the bit k alone. -/
theorem crK_flip {v x y k : Nat} (hv : v < 4294967296) (hk : x / 2 ^ k % 2 ≠ y / 2 ^ k % 2) (h : ∀ j, j ≠ k → x / 2 ^ j % 2 = y / 2 ^ j % 2) : ∀ n, k < n → crK v x n ≠ crK v y n := by
  intro n hn
  induction n with
  | zero => omega
  | succ n ih =>
    unfold crK
    by_cases e : n = k
    · subst e
      rw [crK_same (fun j hj => h j (by omega))]
      exact crBit_ne (crK_lt hv n) (Nat.mod_lt _ (by decide)) (Nat.mod_lt _ (by decide)) hk
    · rw [h n e]
      exact fun e2 => ih (by omega) (crBit_inj (crK_lt hv n) (crK_lt hv n) (Nat.mod_lt _ (by decide)) e2)

/-- All bytes are taken in. -/
def crL (v : Nat) : List Nat → Nat
  | [] => v
  | x :: l => crL (crK v x 8) l
theorem crL_lt {v : Nat} (h : v < 4294967296) : ∀ l, crL v l < 4294967296 := by
  intro l
  induction l generalizing v with
  | nil => exact h
  | cons x l ih => exact ih (crK_lt h 8)
theorem crL_append (v : Nat) (l m : List Nat) : crL v (l ++ m) = crL (crL v l) m := by
  induction l generalizing v with
  | nil => rfl
  | cons x l ih => exact ih _
theorem crL_snoc (v x : Nat) (l : List Nat) : crL v (l ++ [x]) = crK (crL v l) x 8 := crL_append v l [x]
theorem crL_take (v : Nat) (l : List Nat) (i : Nat) (h : i < l.length) : crL v (l.take (i + 1)) = crK (crL v (l.take i)) l[i] 8 := by
  rw [List.take_succ_eq_append_getElem h, crL_snoc]
theorem crL_inj {v u : Nat} (hv : v < 4294967296) (hu : u < 4294967296) : ∀ l, crL v l = crL u l → v = u := by
  intro l
  induction l generalizing v u with
  | nil => exact fun h => h
  | cons x l ih => exact fun h => crK_inj hv hu 8 (ih (crK_lt hv 8) (crK_lt hu 8) h)

/-- The checksum. -/
def crSum (l : List Nat) : Nat := 4294967295 - crL 4294967295 l
theorem crSum_lt (l : List Nat) : crSum l < 4294967296 := by unfold crSum; omega
/-- The bit k of a byte, turned. -/
def turn1 (x k : Nat) : Nat := x ^^^ 2 ^ k
theorem turn1_lt {x k : Nat} (hx : x < 256) (hk : k < 8) : turn1 x k < 256 := by
  have h1 : (2 : Nat) ^ k < 2 ^ 8 := Nat.pow_lt_pow_right (by decide) hk
  have e : (2 : Nat) ^ 8 = 256 := by decide
  have := Nat.xor_lt_two_pow (x := x) (y := 2 ^ k) (n := 8) (by omega) h1
  rwa [e] at this
theorem bit_eq (x j : Nat) : x / 2 ^ j % 2 = (if x.testBit j then 1 else 0) := by
  rw [Nat.testBit_eq_decide_div_mod_eq]
  rcases Nat.mod_two_eq_zero_or_one (x / 2 ^ j) with h | h <;> rw [h] <;> rfl
theorem turn1_bit (x k : Nat) : turn1 x k / 2 ^ k % 2 ≠ x / 2 ^ k % 2 := by
  rw [bit_eq, bit_eq]
  unfold turn1
  rw [Nat.testBit_xor, Nat.testBit_two_pow_self]
  cases x.testBit k <;> decide
theorem turn1_other (x k j : Nat) (h : j ≠ k) : turn1 x k / 2 ^ j % 2 = x / 2 ^ j % 2 := by
  rw [bit_eq, bit_eq]
  unfold turn1
  rw [Nat.testBit_xor, Nat.testBit_two_pow_of_ne (Ne.symm h), Bool.xor_false]
theorem turn1_ne (x k : Nat) : turn1 x k ≠ x := fun e => turn1_bit x k (by rw [e])
theorem set_parts (l : List Nat) (i y : Nat) (h : i < l.length) : l.set i y = l.take i ++ y :: l.drop (i + 1) := by
  rw [List.set_eq_take_append_cons_drop, if_pos h]
/-- One bit alone always shows. -/
theorem crSum_turned (l : List Nat) (i k : Nat) (h : i < l.length) (hk : k < 8) : crSum (l.set i (turn1 l[i] k)) ≠ crSum l := by
  have e1 : crL 4294967295 l = crL (crK (crL 4294967295 (l.take i)) l[i] 8) (l.drop (i + 1)) := by
    conv => lhs; rw [← List.take_append_drop (i + 1) l, crL_append, crL_take _ _ _ h]
  have e2 : crL 4294967295 (l.set i (turn1 l[i] k)) = crL (crK (crL 4294967295 (l.take i)) (turn1 l[i] k) 8) (l.drop (i + 1)) := by
    rw [set_parts _ _ _ h, crL_append]; rfl
  have hs : crL 4294967295 (l.take i) < 4294967296 := crL_lt (by decide) _
  have h1 := crL_lt (v := 4294967295) (by decide) l
  have h2 := crL_lt (v := 4294967295) (by decide) (l.set i (turn1 l[i] k))
  intro e
  unfold crSum at e
  have e3 : crL 4294967295 (l.set i (turn1 l[i] k)) = crL 4294967295 l := by omega
  rw [e1, e2] at e3
  exact crK_flip hs (turn1_bit l[i] k) (fun j hj => turn1_other l[i] k j hj) 8 hk (crL_inj (crK_lt hs 8) (crK_lt hs 8) _ e3)

/-! ### The way without a look at the byte's bits: the byte is taken into the register at once -/
theorem xor_mod2 (v b : Nat) : (v ^^^ b) % 2 = (v + b) % 2 := by
  have h := bit_eq (v ^^^ b) 0
  have h1 := bit_eq v 0
  have h2 := bit_eq b 0
  rw [Nat.pow_zero, Nat.div_one] at h h1 h2
  rw [h, Nat.testBit_xor]
  cases e1 : v.testBit 0 <;> cases e2 : b.testBit 0 <;> rw [e1] at h1 <;> rw [e2] at h2 <;> simp at h1 h2 ⊢ <;> omega
/-- One step of the register alone. -/
def crStep (v : Nat) : Nat := if v % 2 = 0 then v / 2 else v / 2 ^^^ 3988292384
theorem crStep_bit (v b : Nat) (hb : b < 2) : crStep (v ^^^ b) = crBit v b := by
  have h1 : (v ^^^ b) / 2 = v / 2 := by
    have h := Nat.xor_div_two (a := v) (b := b)
    rw [h, show b / 2 = 0 by omega, Nat.xor_zero]
  have h2 : (v ^^^ b) % 2 = (v + b) % 2 := xor_mod2 v b
  unfold crStep crBit
  rw [h1, h2]
  by_cases h : v % 2 = b
  · rw [if_pos h, if_pos (by omega)]
  · rw [if_neg h, if_neg (by omega)]
/-- k steps of the register alone. -/
def crIter (v : Nat) : Nat → Nat
  | 0 => v
  | k + 1 => crStep (crIter v k)
theorem crStep_xor (a y : Nat) : crStep (a ^^^ y) = crBit a (y % 2) ^^^ y / 2 := by
  have h1 : (a ^^^ y) / 2 = a / 2 ^^^ y / 2 := Nat.xor_div_two
  have h2 := xor_mod2 a y
  unfold crStep crBit
  rw [h1, h2]
  by_cases h : a % 2 = y % 2
  · rw [if_pos (by omega), if_pos h]
  · rw [if_neg (by omega), if_neg h, Nat.xor_assoc, Nat.xor_comm (y / 2), ← Nat.xor_assoc]
theorem crIter_eq (v x : Nat) : ∀ k, crIter (v ^^^ x) k = crK v x k ^^^ x / 2 ^ k
  | 0 => by rw [Nat.pow_zero, Nat.div_one]; rfl
  | k + 1 => by
    unfold crIter crK
    rw [crIter_eq v x k, crStep_xor, Nat.pow_succ, Nat.div_div_eq_div_mul]
theorem crK_iter {x : Nat} (v : Nat) (h : x < 256) : crK v x 8 = crIter (v ^^^ x) 8 := by
  rw [crIter_eq, Nat.div_eq_of_lt (by simpa using h), Nat.xor_zero]
theorem crStep_lt {v : Nat} (h : v < 4294967296) : crStep v < 4294967296 := by
  have e : crStep v = crBit v 0 := by unfold crStep crBit; rfl
  rw [e]; exact crBit_lt h
theorem crIter_lt {v : Nat} (h : v < 4294967296) : ∀ k, crIter v k < 4294967296
  | 0 => h
  | k + 1 => crStep_lt (crIter_lt h k)
theorem crNot {v : Nat} (h : v < 4294967296) : v ^^^ 4294967295 = 4294967295 - v := by
  have h2 : v ^^^ (2 ^ 32 - 1) = 2 ^ 32 - 1 - v := by
    refine Nat.eq_of_testBit_eq fun i => ?_
    rw [Nat.testBit_xor, Nat.testBit_two_pow_sub_one, Nat.sub_right_comm]
    rw [show 2 ^ 32 - v - 1 = 2 ^ 32 - (v + 1) by omega, Nat.testBit_two_pow_sub_succ (by rw [p32]; exact h)]
    by_cases hi : i < 32
    · simp [hi]
    · simp [hi]
      exact Nat.testBit_lt_two_pow (Nat.lt_of_lt_of_le (by rw [p32]; exact h) (Nat.pow_le_pow_right (by decide) (show 32 ≤ i by omega)))
  rw [p32] at h2
  exact h2
end Go.Proofs.YtdaglbjdgdokpaaDoor
