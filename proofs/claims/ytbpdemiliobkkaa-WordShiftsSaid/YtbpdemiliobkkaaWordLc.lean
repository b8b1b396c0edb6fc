/-
  The walk of WordShifts: products with a power of 2.
-/
import Derived.Test.YtbpdemiliobkkaaWordLa
import Derived.Test.YtbpdemiliobkkaaWordN
namespace Go.Proofs.Ytbpdemiliobkkaa
open Go.RowKit
set_option linter.unusedVariables false

theorem shifts_all (a j : Nat) (ha : a < 18446744073709551616) (hj : j ≤ 63) :
    ∃ p h l : Nat, IntKind.u64.wrap ((2 : Int) ^ j) = (p : Int) ∧ p < 18446744073709551616 ∧ mulH a p = h ∧ mulL a p = l ∧ IntKind.u64.wrap ((a : Int) * 2 ^ j) = (l : Int) ∧ (a : Int) / 2 ^ (64 - j) = (h : Int) := by
  have hp : 2 ^ j < 18446744073709551616 := by
    have : 2 ^ j ≤ 2 ^ 63 := Nat.pow_le_pow_right (by omega) hj
    have e63 : (2 : Nat) ^ 63 = 9223372036854775808 := by decide +kernel
    omega
  refine ⟨2 ^ j, _, _, ?_, hp, rfl, rfl, ?_, ?_⟩
  · rw [pow_cast]; exact w64 _ hp
  · rw [pow_cast, ← Int.natCast_mul, IntKind.wrap_u64]
    unfold mulL
    omega
  · rw [pow_cast, ← Int.natCast_ediv]
    unfold mulH
    have e : 2 ^ (64 - j) * 2 ^ j = 18446744073709551616 := by rw [← Nat.pow_add, show 64 - j + j = 64 from by omega]
    rw [← e, Nat.mul_div_mul_right _ _ (Nat.two_pow_pos j)]

theorem len_top (a m : Nat) (ha : a < 18446744073709551616) (h : Lib.bitLen a = m + 1) : (a : Int) / 2 ^ m = 1 ∧ a ≠ 0 := by
  have h0 : a ≠ 0 := by intro h0; subst h0; rw [bl_zero] at h; omega
  obtain ⟨_, b1, b2⟩ := bl_bounds a (by omega) ha
  rw [h] at b1 b2
  rw [Nat.add_sub_cancel] at b1
  rw [pow_cast, ← Int.natCast_ediv]
  refine ⟨?_, h0⟩
  have : a / 2 ^ m = 1 := by
    refine Nat.le_antisymm ?_ ?_
    · have : a / 2 ^ m < 2 := by
        rw [Nat.div_lt_iff_lt_mul (Nat.two_pow_pos m), ← Nat.pow_succ']; exact b2
      omega
    · exact Nat.div_pos b1 (Nat.two_pow_pos m)
  rw [this]; rfl

theorem len_none (a n : Nat) (ha : a < 18446744073709551616) (h : Lib.bitLen a = n) : (a : Int) / 2 ^ n = 0 := by
  rw [pow_cast, ← Int.natCast_ediv]
  have : a < 2 ^ n := by
    by_cases h0 : a = 0
    · subst h0; exact Nat.two_pow_pos _
    · rw [← h]; exact (bl_bounds a (by omega) ha).2.2
  rw [Nat.div_eq_of_lt this]; rfl

set_option maxRecDepth 100000 in
set_option maxHeartbeats 1000000 in
theorem wordShifts_walk (a : Nat) (k : Int) (ha : a < 18446744073709551616) (hk : -9223372036854775808 ≤ k ∧ k ≤ 9223372036854775807) (w : World) :
    Calls Try.prog 9 #[.int .u64 (a : Int), .int .i64 k] w fun e w' => e = .returned (.bool true) ∧ Q w w' := by
  by_cases c1 : k < 1
  · clear hk
    go_enter Try.func9, Try.ntmps9
    go_wp2_with (first
      | (go_at_call 11; refine (shown_any _).mono ?_; rintro e w' ⟨rfl, hq1⟩))
    go_ret
    exact ⟨rfl, hq1⟩
  · by_cases c2 : 63 < k
    · clear hk
      go_enter Try.func9, Try.ntmps9
      go_wp2_with (first
        | (go_at_call 11; refine (shown_any _).mono ?_; rintro e w' ⟨rfl, hq1⟩))
      go_ret
      exact ⟨rfl, hq1⟩
    · obtain ⟨j, rfl⟩ := Int.eq_ofNat_of_zero_le (show 0 ≤ k by omega)
      have j1 : 1 ≤ j := by omega
      have j2 : j ≤ 63 := by omega
      clear hk c1 c2
      by_cases z : a = 0
      · subst z
        obtain ⟨p, h, l, r1, hp, hh, hl, r2, r3⟩ := shifts_all 0 j ha j2
        have eh : mulH 0 p = 0 := by unfold mulH; rw [Nat.zero_mul]
        have el : mulL 0 p = 0 := by unfold mulL; rw [Nat.zero_mul]
        have M := fun w => mul_any 0 p ha hp w
        have L := fun w => len_any 0 ha w
        rw [eh, el] at M
        rw [bl_zero] at L
        have M1 : Hid (∀ w, Calls Try.prog 16 #[.int .u64 0, .int .u64 (p : Int)] w fun e w' => e = .returned (.tuple #[.int .u64 0, .int .u64 0]) ∧ w = w') := M
        have L1 : Hid (∀ w, Calls Try.prog 20 #[.int .u64 0] w fun e w' => e = .returned (.int .i64 0) ∧ w = w') := L
        clear M L hp hh hl r2 r3 eh el ha
        go_enter Try.func9, Try.ntmps9
        go_wp2_with (first
          | (go_at_call 11; refine (shown_any _).mono ?_; rintro e w' ⟨rfl, hq1⟩)
          | (go_at_call 16; (with_reducible refine (M1.out _).mono ?_); rintro e w' ⟨rfl, rfl⟩)
          | (go_at_call 20; (with_reducible refine (L1.out _).mono ?_); rintro e w' ⟨rfl, rfl⟩))
        go_ret
        exact ⟨rfl, hq1⟩
      · obtain ⟨p, h, l, r1, hp, hh, hl, r2, r3⟩ := shifts_all a j ha j2
        have M := fun w => mul_any a p ha hp w
        rw [hh, hl] at M
        have M1 := Lib.hid M
        have L := fun w => len_any a ha w
        have n2 := bl_le a ha
        obtain ⟨n, hn⟩ : ∃ n, Lib.bitLen a = n := ⟨_, rfl⟩
        have e0 := len_none a n ha hn
        have n1 := (bl_bounds a (by omega) ha).1
        obtain ⟨m, rfl⟩ : ∃ m, n = m + 1 := ⟨n - 1, by omega⟩
        have e1 := (len_top a m ha hn).1
        rw [hn] at L n2
        have L1 : Hid (∀ w, Calls Try.prog 20 #[.int .u64 (a : Int)] w fun e w' => e = .returned (.int .i64 ((m : Int) + 1)) ∧ w = w') := L
        have m2 : m ≤ 63 := by omega
        have b1 : ((m : Int) + 1 == 0) = false := by rw [beq_eq_false_iff_ne]; omega
        clear M L hp hh hl hn n1 n2 z ha
        by_cases cm : m = 63
        · subst cm
          have p63 : (2 : Int) ^ 63 = 9223372036854775808 := by decide +kernel
          have e1' : ((a : Int) / 9223372036854775808 == 1) = true := by rw [← p63, e1]; rfl
          clear p63 e1
          go_enter Try.func9, Try.ntmps9
          go_wp2_with (first
            | (go_at_call 11; refine (shown_any _).mono ?_; rintro e w' ⟨rfl, hq1⟩)
            | (go_at_call 16; (with_reducible refine (M1.out _).mono ?_); rintro e w' ⟨rfl, rfl⟩)
            | (go_at_call 20; (with_reducible refine (L1.out _).mono ?_); rintro e w' ⟨rfl, rfl⟩))
          go_ret
          exact ⟨rfl, hq1⟩
        · have b2 : ((m : Int) + 1 == 64) = false := by rw [beq_eq_false_iff_ne]; omega
          go_enter Try.func9, Try.ntmps9
          go_wp2_with (first
            | (go_at_call 11; refine (shown_any _).mono ?_; rintro e w' ⟨rfl, hq1⟩)
            | (go_at_call 16; (with_reducible refine (M1.out _).mono ?_); rintro e w' ⟨rfl, rfl⟩)
            | (go_at_call 20; (with_reducible refine (L1.out _).mono ?_); rintro e w' ⟨rfl, rfl⟩))
          go_ret
          exact ⟨rfl, hq1⟩
end Go.Proofs.Ytbpdemiliobkkaa
