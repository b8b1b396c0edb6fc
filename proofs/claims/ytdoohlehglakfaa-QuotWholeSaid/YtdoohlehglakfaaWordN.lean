/-
  The plain arithmetic under math/bits.Div64, second part: divisor and dividend are moved up till the divisor's highest bit is set.
-/
import Derived.Test.YtdoohlehglakfaaWordK
import Derived.Lib.ItoaNum
import Derived.Lib.BitFns
import Derived.Laws.BitsAllLaws
namespace Go.Proofs.Ytdoohlehglakfaa
set_option linter.unusedVariables false

theorem pow_cast (s : Nat) : (2 : Int) ^ s = ((2 ^ s : Nat) : Int) := by rw [Int.natCast_pow]; rfl

theorem bl_bounds (y : Nat) (h0 : 0 < y) (hy : y < 18446744073709551616) : 1 ≤ Lib.bitLen y ∧ 2 ^ (Lib.bitLen y - 1) ≤ y ∧ y < 2 ^ Lib.bitLen y := by
  have := Lib.bitLenAux_bounds 64 y hy (by omega)
  exact this

/-- The moved numbers, with the powers under names: P = 2^s, R = 2^(64-s). -/
theorem norm_plain (hi lo y P R : Nat) (hP : 0 < P) (hR : 0 < R) (hPR : P * R = 18446744073709551616) (hlt : hi < y) (hlo : lo < 18446744073709551616) (hyR : y < R) :
    y * P < 18446744073709551616 ∧ hi * P < 18446744073709551616 ∧ lo / R < P ∧ hi * P + lo / R < y * P ∧
    (hi * P + lo / R) * 18446744073709551616 + lo * P % 18446744073709551616 = (hi * 18446744073709551616 + lo) * P := by
  have h1 : y * P < R * P := Nat.mul_lt_mul_of_pos_right hyR hP
  have h2 : hi * P + P ≤ y * P := by
    have : (hi + 1) * P ≤ y * P := Nat.mul_le_mul_right P hlt
    rw [Nat.add_mul, Nat.one_mul] at this
    exact this
  have h3 : lo / R < P := by rw [Nat.div_lt_iff_lt_mul hR, hPR]; exact hlo
  rw [Nat.mul_comm R P, hPR] at h1
  have h4 : lo * P / 18446744073709551616 = lo / R := by
    rw [← hPR, Nat.mul_comm P R]
    exact Nat.mul_div_mul_right lo R hP
  have h5 := Nat.div_add_mod (lo * P) 18446744073709551616
  rw [h4] at h5
  refine ⟨h1, by omega, h3, by omega, ?_⟩
  rw [Nat.add_mul (hi * 18446744073709551616) lo P, Nat.mul_right_comm hi 18446744073709551616 P]
  omega

/-- What the walk leaves, under names. -/
theorem norm (hi lo y s : Nat) (hs : 64 - Lib.bitLen y = s) (hlt : hi < y) (hy : y < 18446744073709551616) (hlo : lo < 18446744073709551616) :
    ∃ Y u v : Nat, s ≤ 63 ∧ IntKind.u64.wrap ((y : Int) * 2 ^ s) = (Y : Int) ∧ Y < 18446744073709551616 ∧ 9223372036854775808 ≤ Y ∧
      bits .or .u64 (IntKind.u64.wrap ((hi : Int) * 2 ^ s)) ((lo : Int) / 2 ^ (64 - s)) = (u : Int) ∧ u < Y ∧
      IntKind.u64.wrap ((lo : Int) * 2 ^ s) = (v : Int) ∧ v < 18446744073709551616 ∧
      (u * 18446744073709551616 + v) / Y = (hi * 18446744073709551616 + lo) / y ∧
      (((u * 18446744073709551616 + v) % Y : Nat) : Int) / 2 ^ s = (((hi * 18446744073709551616 + lo) % y : Nat) : Int) := by
  obtain ⟨hb1, hb2, hb3⟩ := bl_bounds y (by omega) hy
  have hb4 := Lib.bitLen_le y 64 (by omega) hy
  have hsb : Lib.bitLen y = 64 - s := by omega
  rw [hsb] at hb1 hb2 hb3
  have hP : 0 < 2 ^ s := Nat.two_pow_pos s
  have hR : 0 < 2 ^ (64 - s) := Nat.two_pow_pos _
  have hPR : 2 ^ s * 2 ^ (64 - s) = 18446744073709551616 := by
    rw [← Nat.pow_add, show s + (64 - s) = 64 from by omega]
  obtain ⟨n1, n2, n3, n4, n5⟩ := norm_plain hi lo y (2 ^ s) (2 ^ (64 - s)) hP hR hPR hlt hlo hb3
  have hge : 9223372036854775808 ≤ y * 2 ^ s := by
    have h1 : 2 ^ (64 - s - 1) * 2 ^ s ≤ y * 2 ^ s := Nat.mul_le_mul_right _ hb2
    rw [← Nat.pow_add, show 64 - s - 1 + s = 63 from by omega] at h1
    exact h1
  refine ⟨y * 2 ^ s, hi * 2 ^ s + lo / 2 ^ (64 - s), lo * 2 ^ s % 18446744073709551616, by omega, ?_, n1, hge, ?_, n4, ?_, Nat.mod_lt _ (by omega), ?_, ?_⟩
  · rw [pow_cast, ← Int.natCast_mul]; exact w64 _ n1
  · rw [pow_cast, pow_cast, ← Int.natCast_mul, w64 _ n2, ← Int.natCast_ediv, u64_or_nat _ _ n2 (Nat.lt_of_le_of_lt (Nat.div_le_self _ _) hlo)]
    rw [nat_join s _ _ (Nat.mul_mod_left _ _) n3]
  · rw [pow_cast, ← Int.natCast_mul, IntKind.wrap_u64]; omega
  · rw [n5, Nat.mul_div_mul_right _ _ hP]
  · rw [n5, Nat.mul_mod_mul_right, pow_cast, ← Int.natCast_ediv, Nat.mul_div_cancel _ hP]
end Go.Proofs.Ytdoohlehglakfaa
