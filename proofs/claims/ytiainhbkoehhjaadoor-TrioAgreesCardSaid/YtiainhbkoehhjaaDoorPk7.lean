/-
  math/bits.Reverse64: a word's bits the other way round.
-/
import Derived.Test.YtiainhbkoehhjaaDoorChecked
import Derived.Test.YtiainhbkoehhjaaDoorPk3
import Derived.Test.YtiainhbkoehhjaaDoorPk5
import Derived.Test.YtiainhbkoehhjaaDoorPk6
namespace Go.Proofs.YtiainhbkoehhjaaDoor
open Go.RowKit
set_option linter.unusedVariables false

/-- Bits change places, s apart. -/
def swp (M s x : Nat) : Nat := (x / 2 ^ s &&& M) ||| (x &&& M) * 2 ^ s
def gs (s i : Nat) : Nat := if i / s % 2 = 0 then i + s else i - s
theorem swp_bit (M s x i : Nat) (hM : ∀ i, i < 64 → M.testBit i = decide (i / s % 2 = 0)) (hs : 0 < s) (hi : i < 64) (h64 : 64 % (2 * s) = 0) : (swp M s x).testBit i = x.testBit (gs s i) := by
  unfold swp gs
  rw [Nat.testBit_or, Nat.testBit_and, Nat.testBit_div_two_pow, hM i hi, Nat.mul_comm, Nat.testBit_two_pow_mul, Nat.testBit_and]
  by_cases h : i / s % 2 = 0
  · rw [if_pos h]
    have : ∀ b : Bool, (x.testBit (i + s) && true || (decide (i ≥ s) && (x.testBit (i - s) && false))) = x.testBit (i + s) := by intro _; simp
    by_cases h2 : s ≤ i
    · have h3 : (i - s) / s % 2 ≠ 0 := by
        have e : i = (i - s) + s := by omega
        have e2 : i / s = (i - s) / s + 1 := by
          conv => lhs; rw [e]
          exact Nat.add_div_right _ hs
        omega
      rw [hM (i - s) (by omega), decide_eq_false h3, decide_eq_true h, this true]
    · rw [decide_eq_true h]
      simp [h2]
  · rw [if_neg h, decide_eq_false h]
    have h2 : s ≤ i := by
      rcases Nat.lt_or_ge i s with h' | h'
      · exact absurd (by rw [Nat.div_eq_of_lt h']) h
      · exact h'
    have h3 : (i - s) / s % 2 = 0 := by
      have e : i = (i - s) + s := by omega
      have e2 : i / s = (i - s) / s + 1 := by
        conv => lhs; rw [e]
        exact Nat.add_div_right _ hs
      omega
    rw [hM (i - s) (by omega), decide_eq_true h3]
    simp [h2]
def m0 : Nat := 6148914691236517205
def m1 : Nat := 3689348814741910323
def m2 : Nat := 1085102592571150095
def m3 : Nat := 71777214294589695
def m4 : Nat := 281470681808895
def rb64 (x : Nat) : Nat := swp m4 16 (swp m3 8 x)
def rev64 (x : Nat) : Nat := rb64 (swp m2 4 (swp m1 2 (swp m0 1 x)))
def turned (y : Nat) : Nat := y / 4294967296 ||| y * 4294967296 % 18446744073709551616
theorem m0_bit : ∀ i, i < 64 → m0.testBit i = decide (i / 1 % 2 = 0) := by decide
theorem m1_bit : ∀ i, i < 64 → m1.testBit i = decide (i / 2 % 2 = 0) := by decide
theorem m2_bit : ∀ i, i < 64 → m2.testBit i = decide (i / 4 % 2 = 0) := by decide
theorem m3_bit : ∀ i, i < 64 → m3.testBit i = decide (i / 8 % 2 = 0) := by decide
theorem m4_bit : ∀ i, i < 64 → m4.testBit i = decide (i / 16 % 2 = 0) := by decide
theorem gs_lt : ∀ i, i < 64 → gs 1 i < 64 ∧ gs 2 i < 64 ∧ gs 4 i < 64 ∧ gs 8 i < 64 ∧ gs 16 i < 64 ∧ gs 32 i < 64 := by decide
theorem gs_all : ∀ i, i < 64 → gs 1 (gs 2 (gs 4 (gs 8 (gs 16 (gs 32 i))))) = 63 - i := by decide
theorem swp_le (M s x : Nat) (h : M * 2 ^ s < 18446744073709551616) (hx : x < 18446744073709551616) : x / 2 ^ s < 18446744073709551616 ∧ (x / 2 ^ s &&& M) < 18446744073709551616 ∧ (x &&& M) < 18446744073709551616 ∧ (x &&& M) * 2 ^ s < 18446744073709551616 ∧ swp M s x < 18446744073709551616 := by
  have h1 : x / 2 ^ s ≤ x := Nat.div_le_self _ _
  have h2 : (x / 2 ^ s &&& M) ≤ x / 2 ^ s := Nat.and_le_left
  have h3 : (x &&& M) ≤ x := Nat.and_le_left
  have h4 : (x &&& M) * 2 ^ s ≤ M * 2 ^ s := Nat.mul_le_mul_right _ Nat.and_le_right
  refine ⟨by omega, by omega, by omega, by omega, ?_⟩
  have e : (18446744073709551616 : Nat) = 2 ^ 64 := by decide
  have b1 : (x / 2 ^ s &&& M) < 2 ^ 64 := by omega
  have b2 : (x &&& M) * 2 ^ s < 2 ^ 64 := by omega
  exact Nat.or_lt_two_pow b1 b2
theorem turned_bit (y i : Nat) (hy : y < 18446744073709551616) (hi : i < 64) : (turned y).testBit i = y.testBit (gs 32 i) := by
  unfold turned gs
  rw [show (4294967296 : Nat) = 2 ^ 32 from rfl, show (18446744073709551616 : Nat) = 2 ^ 64 from rfl] at *
  rw [Nat.testBit_or, Nat.testBit_div_two_pow, Nat.testBit_mod_two_pow, Nat.mul_comm, Nat.testBit_two_pow_mul, decide_eq_true hi, Bool.true_and]
  by_cases h : 32 ≤ i
  · rw [if_neg (by omega), Nat.testBit_lt_two_pow (i := i + 32) (Nat.lt_of_lt_of_le hy (Nat.pow_le_pow_right (by decide) (by omega)))]
    simp [h]
  · rw [if_pos (by omega)]
    simp [h]
theorem rev_lt (x : Nat) (hx : x < 18446744073709551616) : rb64 x < 18446744073709551616 ∧ rev64 x < 18446744073709551616 := by
  have h3 := fun x hx => (swp_le m3 8 x (by decide) hx).2.2.2.2
  have h4 := fun x hx => (swp_le m4 16 x (by decide) hx).2.2.2.2
  exact ⟨h4 _ (h3 _ hx), h4 _ (h3 _ (swp_le m2 4 _ (by decide) (swp_le m1 2 _ (by decide) (swp_le m0 1 x (by decide) hx).2.2.2.2).2.2.2.2).2.2.2.2)⟩
theorem rev_bit (x i : Nat) (hx : x < 18446744073709551616) (hi : i < 64) : (turned (rev64 x)).testBit i = x.testBit (63 - i) := by
  rw [← gs_all i hi]
  have l0 := (gs_lt i hi).2.2.2.2.2
  have l1 := (gs_lt _ l0).2.2.2.2.1
  have l2 := (gs_lt _ l1).2.2.2.1
  have l3 := (gs_lt _ l2).2.2.1
  have l4 := (gs_lt _ l3).2.1
  rw [turned_bit _ i (rev_lt x hx).2 hi]
  unfold rev64 rb64
  rw [swp_bit m4 16 _ _ m4_bit (by decide) l0 (by decide), swp_bit m3 8 _ _ m3_bit (by decide) l1 (by decide), swp_bit m2 4 _ _ m2_bit (by decide) l2 (by decide), swp_bit m1 2 _ _ m1_bit (by decide) l3 (by decide), swp_bit m0 1 _ _ m0_bit (by decide) l4 (by decide)]
theorem turned_lt (y : Nat) (hy : y < 18446744073709551616) : turned y < 18446744073709551616 := by
  unfold turned
  have h1 : y / 4294967296 < 2 ^ 64 := by rw [show (2 : Nat) ^ 64 = 18446744073709551616 from rfl]; omega
  have h2 : y * 4294967296 % 18446744073709551616 < 2 ^ 64 := Nat.mod_lt _ (by decide)
  exact Nat.or_lt_two_pow h1 h2
/-- Among so many bits. -/
theorem rev_rv (x k : Nat) (hk : k ≤ 64) (hx : x < 2 ^ k) : turned (rev64 x) / 2 ^ (64 - k) = rv k x := by
  have hx64 : x < 18446744073709551616 := Nat.lt_of_lt_of_le hx (show 2 ^ k ≤ 2 ^ 64 from Nat.pow_le_pow_right (by decide) hk)
  refine Nat.eq_of_testBit_eq fun i => ?_
  rw [Nat.testBit_div_two_pow]
  by_cases hi : i < k
  · rw [rev_bit x _ hx64 (by omega), rv_bit k x i hi, show 63 - (i + (64 - k)) = k - 1 - i from by omega]
  · rw [rv_over k x i (by omega), Nat.testBit_lt_two_pow (Nat.lt_of_lt_of_le (turned_lt _ (rev_lt x hx64).2) (show 2 ^ 64 ≤ 2 ^ (i + (64 - k)) from Nat.pow_le_pow_right (by decide) (by omega)))]

/-- One change of places, as the walk spells it. -/
theorem swp_num (M s x : Nat) (h : M * 2 ^ s < 18446744073709551616) (hM : M < 18446744073709551616) (hx : x < 18446744073709551616) : ∃ a b c d y : Nat, x / 2 ^ s = a ∧ bits .and .u64 (a : Int) (M : Int) = (b : Int) ∧ bits .and .u64 (x : Int) (M : Int) = (c : Int) ∧
    c * 2 ^ s = d ∧ d < 18446744073709551616 ∧ bits .or .u64 (b : Int) (d : Int) = (y : Int) ∧ swp M s x = y := by
  obtain ⟨h1, h2, h3, h4, h5⟩ := swp_le M s x h hx
  exact ⟨_, _, _, _, _, rfl, bits_and_u64_nat _ _ h1 hM, bits_and_u64_nat _ _ hx hM, rfl, h4, bits_or_u64_nat _ _ h2 h4, rfl⟩

set_option maxRecDepth 100000 in
theorem revbytes_any (x : Nat) (hx : x < 18446744073709551616) (w : World) :
    Calls Tryd.prog 82 #[.int .u64 (x : Int)] w fun e w' => e = .returned (.int .u64 ((turned (rb64 x) : Nat) : Int)) ∧ w = w' := by
  unfold rb64
  obtain ⟨a1, b1, c1, d1, y, p1, q1, r1, s1, t1, u1, v1⟩ := swp_num m3 8 x (by decide) (by decide) hx
  have hy := (swp_le m3 8 x (by decide) hx).2.2.2.2
  rw [v1] at hy ⊢
  obtain ⟨a2, b2, c2, d2, z, p2, q2, r2, s2, t2, u2, v2⟩ := swp_num m4 16 y (by decide) (by decide) hy
  have hz := (swp_le m4 16 y (by decide) hy).2.2.2.2
  rw [v2] at hz ⊢
  unfold turned
  have g1 : bits .or .u64 ((z : Int) / 4294967296) (IntKind.u64.wrap ((z : Int) * 4294967296)) = ((z / 4294967296 ||| z * 4294967296 % 18446744073709551616 : Nat) : Int) := by
    rw [IntKind.wrap_u64]
    exact bits_or_u64_nat _ _ (Nat.lt_of_le_of_lt (Nat.div_le_self _ _) hz) (Nat.mod_lt _ (by decide))
  obtain ⟨R, hR⟩ : ∃ R, (z / 4294967296 ||| z * 4294967296 % 18446744073709551616) = R := ⟨_, rfl⟩
  rw [hR] at g1 ⊢
  rw [show ((m3 : Nat) : Int) = 71777214294589695 from rfl] at q1 r1
  rw [show ((m4 : Nat) : Int) = 281470681808895 from rfl] at q2 r2
  have e1 : (x : Int) / 256 = (a1 : Int) := by omega
  have e2 : (c1 : Int) * 256 = (d1 : Int) := by omega
  have e3 : IntKind.u64.wrap (d1 : Int) = (d1 : Int) := IntWalk.u64_in _ (by omega)
  have e4 : (y : Int) / 65536 = (a2 : Int) := by omega
  have e5 : (c2 : Int) * 65536 = (d2 : Int) := by omega
  have e6 : IntKind.u64.wrap (d2 : Int) = (d2 : Int) := IntWalk.u64_in _ (by omega)
  clear p1 s1 t1 v1 hy p2 s2 t2 v2 hz hR hx
  go_enter Tryd.func82, Tryd.ntmps82
  go_wp2
  go_ret
  exact ⟨rfl, rfl⟩

set_option maxRecDepth 100000 in
theorem reverse_any (x : Nat) (hx : x < 18446744073709551616) (w : World) :
    Calls Tryd.prog 80 #[.int .u64 (x : Int)] w fun e w' => e = .returned (.int .u64 ((turned (rev64 x) : Nat) : Int)) ∧ w = w' := by
  unfold rev64
  obtain ⟨a1, b1, c1, d1, y, p1, q1, r1, s1, t1, u1, v1⟩ := swp_num m0 1 x (by decide) (by decide) hx
  have hy := (swp_le m0 1 x (by decide) hx).2.2.2.2
  rw [v1] at hy ⊢
  obtain ⟨a2, b2, c2, d2, z, p2, q2, r2, s2, t2, u2, v2⟩ := swp_num m1 2 y (by decide) (by decide) hy
  have hz := (swp_le m1 2 y (by decide) hy).2.2.2.2
  rw [v2] at hz ⊢
  obtain ⟨a3, b3, c3, d3, u, p3, q3, r3, s3, t3, u3, v3⟩ := swp_num m2 4 z (by decide) (by decide) hz
  have hu := (swp_le m2 4 z (by decide) hz).2.2.2.2
  rw [v3] at hu ⊢
  have R := Lib.hid (fun w => revbytes_any u hu w)
  obtain ⟨q, hq⟩ : ∃ q, turned (rb64 u) = q := ⟨_, rfl⟩
  rw [hq] at R ⊢
  rw [show ((m0 : Nat) : Int) = 6148914691236517205 from rfl] at q1 r1
  rw [show ((m1 : Nat) : Int) = 3689348814741910323 from rfl] at q2 r2
  rw [show ((m2 : Nat) : Int) = 1085102592571150095 from rfl] at q3 r3
  have e1 : (x : Int) / 2 = (a1 : Int) := by omega
  have e2 : (c1 : Int) * 2 = (d1 : Int) := by omega
  have e3 : IntKind.u64.wrap (d1 : Int) = (d1 : Int) := IntWalk.u64_in _ (by omega)
  have e4 : (y : Int) / 4 = (a2 : Int) := by omega
  have e5 : (c2 : Int) * 4 = (d2 : Int) := by omega
  have e6 : IntKind.u64.wrap (d2 : Int) = (d2 : Int) := IntWalk.u64_in _ (by omega)
  have e7 : (z : Int) / 16 = (a3 : Int) := by omega
  have e8 : (c3 : Int) * 16 = (d3 : Int) := by omega
  have e9 : IntKind.u64.wrap (d3 : Int) = (d3 : Int) := IntWalk.u64_in _ (by omega)
  clear p1 s1 t1 v1 hy p2 s2 t2 v2 hz p3 s3 t3 v3 hu hq hx
  go_enter Tryd.func80, Tryd.ntmps80
  go_wp2_with (go_at_call 82; (with_reducible refine (R.out _).mono ?_); rintro e w' ⟨rfl, rfl⟩)
  go_ret
  exact ⟨rfl, rfl⟩
end Go.Proofs.YtiainhbkoehhjaaDoor
