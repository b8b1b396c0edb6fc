/-
  The document's rows of digits (layer 4): Cmp, digit, Same, Bits.
-/
import Derived.Test.YtdaglbjdgdokpaaDoorChecked
import Derived.Test.YtdaglbjdgdokpaaDoorNtA
import Derived.Test.YtdaglbjdgdokpaaDoorNtN
import Derived.BigQuiet
namespace Go.Proofs.YtdaglbjdgdokpaaDoor
open Go.RowKit
set_option linter.unusedVariables false

/-- Which of two is above. -/
def cmpi (x y : Nat) : Int := if x < y then -1 else if y < x then 1 else 0
theorem cmpi_lt {x y : Nat} (h : x < y) : cmpi x y = -1 := by unfold cmpi; rw [if_pos h]
theorem cmpi_gt {x y : Nat} (h : y < x) : cmpi x y = 1 := by unfold cmpi; rw [if_neg (by omega), if_pos h]
theorem cmpi_eq {x y : Nat} (h : x = y) : cmpi x y = 0 := by unfold cmpi; rw [if_neg (by omega), if_neg (by omega)]
theorem len_lt {B x y : Nat} (hB : 2 ≤ B) (h : (dig B x).length < (dig B y).length) : x < y := by
  have hy : 0 < y := by
    rcases Nat.eq_zero_or_pos y with e | e
    · subst e; rw [dig_zero] at h; simp at h
    · exact e
  exact Nat.lt_of_lt_of_le (dig_lt B hB x) (Nat.le_trans (Nat.pow_le_pow_right (by omega) (by omega)) (dig_ge B hB y hy))
/-- From place j on both are the same. -/
def Ab (B x y j : Nat) : Prop := x / B ^ j = y / B ^ j
theorem ab_start {B x y n : Nat} (hB : 2 ≤ B) (hx : (dig B x).length = n) (hy : (dig B y).length = n) : Ab B x y n := by
  unfold Ab
  rw [Nat.div_eq_of_lt (hx ▸ dig_lt B hB x), Nat.div_eq_of_lt (hy ▸ dig_lt B hB y)]
theorem ab_div {B x i : Nat} : x / B ^ i = B * (x / B ^ (i + 1)) + x / B ^ i % B := by
  rw [Nat.pow_succ, ← Nat.div_div_eq_div_mul]
  exact (Nat.div_add_mod _ _).symm
theorem ab_lt {B x y i : Nat} (h : Ab B x y (i + 1)) (hd : x / B ^ i % B < y / B ^ i % B) : x < y := by
  unfold Ab at h
  have e1 := ab_div (B := B) (x := x) (i := i)
  have e2 := ab_div (B := B) (x := y) (i := i)
  rw [h] at e1
  rcases Nat.lt_or_ge x y with h' | h'
  · exact h'
  · have := Nat.div_le_div_right (c := B ^ i) h'
    omega
theorem ab_step {B x y i : Nat} (h : Ab B x y (i + 1)) (hd : x / B ^ i % B = y / B ^ i % B) : Ab B x y i := by
  unfold Ab at h ⊢
  rw [ab_div (B := B) (x := x), ab_div (B := B) (x := y), h, hd]
theorem ab_end {B x y : Nat} (h : Ab B x y 0) : x = y := by
  unfold Ab at h
  simpa using h

theorem ret_i64 {a b : Int} (h : a = b) : Ending.returned (.int .i64 a) = .returned (.int .i64 b) := by rw [h]

end Go.Proofs.YtdaglbjdgdokpaaDoor
