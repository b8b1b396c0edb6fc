/-
  Package quot: tooLong, Pow, over numbers.
-/
import Derived.Test.YtfmkbeffhdphfaaPk30
import Derived.Test.YtfmkbeffhdphfaaPk38
import Derived.Test.YtfmkbeffhdphfaaPk31
import Derived.Test.YtfmkbeffhdphfaaPk39
namespace Go.Proofs.Ytfmkbeffhdphfaa
open Go.RowKit
set_option linter.unusedVariables false
set_option linter.unusedSimpArgs false

set_option maxRecDepth 100000 in
set_option maxHeartbeats 4000000 in
theorem ptooLong_any (W : World) (va : Value) (A n : Nat) (ha : Nu W va A) (hn : n < 9223372036854775808) :
    Calls Try.prog 40 #[va, .int .i64 (n : Int)] W fun e w => e = .returned (.bool (decide (262144 < blen A * n))) ∧ Bl W w := by
  have KL := Lib.hid (pLen W va A ha)
  have hb : blen A ≤ 67108864 := by
    have h1 := nu_len ha
    have h2 : Sz (dig 18446744073709551616 A).length A := dig_lt 18446744073709551616 (by decide) A
    have := blen_sz h2
    omega
  obtain ⟨b, eb⟩ : ∃ b, blen A = b := ⟨_, rfl⟩
  rw [eb] at KL hb ⊢
  have KM := Lib.hid (fun w => mul_any b n (by omega) (by omega) w)
  have e1 : mulH b n = b * n / 18446744073709551616 := rfl
  have e2 : mulL b n = b * n % 18446744073709551616 := rfl
  rw [e1, e2] at KM
  obtain ⟨p, hp⟩ : ∃ p, b * n = p := ⟨_, rfl⟩
  rw [hp] at KM ⊢
  obtain ⟨h, eh⟩ : ∃ h, p / 18446744073709551616 = h := ⟨_, rfl⟩
  obtain ⟨l, el⟩ : ∃ l, p % 18446744073709551616 = l := ⟨_, rfl⟩
  rw [eh, el] at KM
  have w1 : IntKind.u64.wrap (b : Int) = (b : Int) := wrapN _ (by omega)
  have w2 : IntKind.u64.wrap (n : Int) = (n : Int) := wrapN _ (by omega)
  by_cases h0 : h = 0
  · have d0 : ((h : Int) != 0) = false := by rw [bne_eq_false_iff_eq]; omega
    have hpl : p = l := by omega
    rw [hpl]
    have d1 : decide ((262144 : Int) < (l : Int)) = decide (262144 < l) := by simp only [decide_eq_decide]; omega
    obtain ⟨t, ht⟩ : ∃ t, decide (262144 < l) = t := ⟨_, rfl⟩
    rw [ht] at d1 ⊢
    clear ht hp eh el hpl h0 e1 e2 ha hb eb hn
    go_enter Try.func40, Try.ntmps40
    go_wp2_with (first
      | (go_at_call 61; (with_reducible refine KL.out.mono ?_); rintro e w1 ⟨rfl, hb1⟩)
      | (go_at_call 60; (with_reducible refine (KM.out _).mono ?_); rintro e w' ⟨rfl, rfl⟩))
    go_ret
    exact ⟨by first | rfl | rw [d1] | simp [d1], hb1⟩
  · have d0 : ((h : Int) != 0) = true := by rw [bne_iff_ne]; omega
    have hpl : decide (262144 < p) = true := decide_eq_true (by omega)
    rw [hpl]
    clear hp eh el hpl h0 e1 e2 ha hb eb hn
    go_enter Try.func40, Try.ntmps40
    go_wp2_with (first
      | (go_at_call 61; (with_reducible refine KL.out.mono ?_); rintro e w1 ⟨rfl, hb1⟩)
      | (go_at_call 60; (with_reducible refine (KM.out _).mono ?_); rintro e w' ⟨rfl, rfl⟩))
    go_ret
    exact ⟨rfl, hb1⟩

theorem pow_size' {A n m K : Nat} (hK : 262144 < 64 * K) (h : blen A * n ≤ 262144) (hm : m ≤ n) : Sz K (A ^ m) := by
  have h1 : A ≤ 2 ^ blen A := by
    unfold blen
    split
    · omega
    · exact Nat.le_of_lt ((Nat.log2_lt (by omega)).1 (by omega))
  have h2 : A ^ m ≤ 2 ^ (blen A * m) := by rw [Nat.pow_mul]; exact Nat.pow_le_pow_left h1 m
  have h3 : blen A * m < 64 * K := Nat.lt_of_le_of_lt (Nat.le_trans (Nat.mul_le_mul_left _ hm) h) hK
  unfold Sz
  have e : (18446744073709551616 : Nat) = 2 ^ 64 := by decide
  rw [e, ← Nat.pow_mul]
  exact Nat.lt_of_le_of_lt h2 (Nat.pow_lt_pow_right (by decide) h3)
theorem pow_size {A n m : Nat} (h : blen A * n ≤ 262144) (hm : m ≤ n) : Sz 4097 (A ^ m) := pow_size' (by decide) h hm
theorem half_step (n s : Nat) : n / 2 ^ s = 2 * (n / 2 ^ (s + 1)) + n / 2 ^ s % 2 := by
  rw [Nat.pow_succ, ← Nat.div_div_eq_div_mul]
  omega
theorem and_one_i64 (x : Nat) (hx : x < 9223372036854775808) : bits .and .i64 (x : Int) 1 = ((x % 2 : Nat) : Int) := by
  have two63 : (2 : Int) ^ 63 = 9223372036854775808 := by decide
  have h := bits_mask .i64 63 (by decide) (fun n h0 h1 => by rw [two63] at h1; rw [IntKind.wrap_i64]; omega) 1 (by decide) (x : Int) (by omega) (by rw [two63]; omega)
  have e : ((2 : Int) ^ 1 - 1) = 1 := by decide
  rw [e] at h
  rw [h]
  omega

set_option maxRecDepth 100000 in
set_option maxHeartbeats 4000000 in
theorem pPow (W : World) (va : Value) (A n : Nat) (ha : Nu W va A) (hn : n < 9223372036854775808) (hs : blen A * n ≤ 262144) :
    Calls Try.prog 23 #[va, .int .i64 (n : Int)] W (RwErr .u64 W (dig 18446744073709551616 (A ^ n)) 0) := by
  have KT := Lib.hid (ptooLong_any W va A n ha hn)
  rw [decide_eq_false (by omega)] at KT
  have KL := Lib.hid (fun w => len_any n (by omega) w)
  have d0 : decide ((n : Int) < 0) = false := decide_eq_false (by omega)
  have w1 : IntKind.u64.wrap (n : Int) = (n : Int) := wrapN _ (by omega)
  obtain ⟨L, hL⟩ : ∃ L, Lib.bitLen n = L := ⟨_, rfl⟩
  rw [hL] at KL
  have lb : (L : Int) ≤ 64 := by have := bl_le n (by omega); omega
  have HL0 : Hid (n / 2 ^ L = 0) := by
    refine Nat.div_eq_of_lt ?_
    rcases Nat.eq_zero_or_pos n with h | h
    · subst h; exact Nat.two_pow_pos _
    · rw [← hL]; exact (bl_bounds n h (by omega)).2.2
  have HNB := Lib.hid hn
  have HNA := Lib.hid ha
  have HSZ : Hid (∀ m, m ≤ n → Sz 4097 (A ^ m)) := fun m hm => pow_size hs hm
  have nb : (n : Int) ≤ 9223372036854775807 := by omega
  clear ha hs hL hn
  go_enter Try.func23, Try.ntmps23
  go_wp2_with (first
    | (go_at_call 40; (with_reducible refine KT.out.mono ?_); rintro e w2 ⟨rfl, hb2⟩)
    | (go_at_call 41; (with_reducible refine (KL.out _).mono ?_); rintro e w' ⟨rfl, rfl⟩))
  have HR0 : Hid (Rw .u64 (w2.alloc (.cells #[.int .u64 1] 23)) (.slice (some ⟨w2.heap.size, 0, none⟩) 1 1) (dig 18446744073709551616 (A ^ (n / 2 ^ L)))) := by
    rw [HL0.out, Nat.pow_zero]
    have e : dig 18446744073709551616 1 = [1] := by decide +kernel
    rw [e]
    exact lit_at rfl
  have HB0 := Lib.hid (hb2.alloc (.cells #[.int .u64 1] 23))
  clear KT KL hb2
  go_loopw [7, 8] (fun p k wr => ∃ (z : Int) (t : Nat), k = .int .i64 z ∧ z = (t : Int) - 1 ∧ t ≤ L ∧ Hid (Rw .u64 wr p (dig 18446744073709551616 (A ^ (n / 2 ^ t)))) ∧ Hid (Bl W wr)) (fun _ k _ => (intOf k + 1).toNat)
  case atStart => exact ⟨_, L, rfl, rfl, Nat.le_refl _, HR0, HB0⟩
  case round =>
    clear HR0 HB0
    obtain ⟨z, t, rfl, hz, ht, hr, hb⟩ := hrel
    by_cases h0 : t = 0
    · subst h0
      obtain rfl : z = -1 := by omega
      have hr0 := hr.out
      rw [Nat.pow_zero, Nat.div_one] at hr0
      clear hz hr
      go_wp2
      go_ret2
      exact RwErr.mk hr0 hb.out
    · obtain ⟨s, rfl⟩ : ∃ s, t = s + 1 := ⟨t - 1, by omega⟩
      obtain rfl : z = (s : Int) := by omega
      have hst := half_step n s
      have hx : n / 2 ^ s < 9223372036854775808 := Nat.lt_of_le_of_lt (Nat.div_le_self _ _) HNB.out
      have e1 : (n : Int) / 2 ^ s = ((n / 2 ^ s : Nat) : Int) := by rw [pow_cast, ← Int.natCast_ediv]
      have e2 := and_one_i64 (n / 2 ^ s) hx
      have hsz := HSZ.out
      obtain ⟨y, ey⟩ : ∃ y, n / 2 ^ (s + 1) = y := ⟨_, rfl⟩
      have hle : n / 2 ^ s ≤ n := Nat.div_le_self _ _
      obtain ⟨x, ex⟩ : ∃ y, n / 2 ^ s = y := ⟨_, rfl⟩
      rw [ex, ey] at hst
      rw [ex] at e1 e2 hle
      rw [ey] at hr
      obtain ⟨b, eb⟩ : ∃ b, x % 2 = b := ⟨_, rfl⟩
      rw [eb] at hst e2
      have hb1 : b ≤ 1 := by omega
      have KQ := Lib.hid (fun W' v' (h : Rw .u64 W' v' (dig 18446744073709551616 (A ^ y))) => pSquare W' v' (A ^ y) 4097 (Nu.dig h (hsz y (by omega)) (by decide)) (hsz y (by omega)) (by decide))
      have HPP : Hid (A ^ y * A ^ y = A ^ (2 * y)) := by show _ = _; rw [Nat.two_mul, Nat.pow_add]
      rw [HPP.out] at KQ
      have sb : (s : Int) ≤ 64 := by omega
      have s1 : decide ((0 : Int) ≤ (s : Int)) = true := decide_eq_true (by omega)
      have HT : Hid (s ≤ L) := by show s ≤ L; omega
      by_cases hb0 : b = 0
      · have b0 : ((b : Int) != 0) = false := by rw [bne_eq_false_iff_eq]; omega
        have hxy : x = 2 * y := by omega
        have HEX : Hid (A ^ (2 * y) = A ^ (n / 2 ^ s)) := by show _ = _; rw [ex, hxy]
        clear hst hx hle ex ey eb hb1 hb0 hxy hz ht h0 hsz
        go_wp2_with (go_at_call 42; (with_reducible refine (KQ.out _ _ hr.out).mono ?_); rintro e w3 ⟨v3, rfl, hr3, hb3⟩; rw [HEX.out] at hr3; have HR3 := Lib.hid hr3; have HB3 := Lib.hid (hb.out.trans hb3); clear hr3 hb3)
        go_roundw
        case rel => exact ⟨_, s, rfl, rfl, HT.out, HR3, HB3⟩
        case measure => simp [intOf] <;> omega
      · have b0 : ((b : Int) != 0) = true := by rw [bne_iff_ne]; omega
        have hxy : x = 2 * y + 1 := by omega
        have hn1 : 1 ≤ n := by omega
        have HEX : Hid (A ^ (2 * y) * A = A ^ (n / 2 ^ s)) := by show _ = _; rw [ex, hxy, Nat.pow_succ]
        have KS := Lib.hid (fun W' v' (g : Bl W W') (h : Rw .u64 W' v' (dig 18446744073709551616 (A ^ (2 * y)))) => pSchool W' v' va (A ^ (2 * y)) A 4097 4097 (Nu.dig h (hsz _ (by omega)) (by decide)) (HNA.out.bl g) (hsz _ (by omega)) (by have := hsz 1 hn1; rwa [Nat.pow_one] at this) (by decide))
        clear hst hx hle ex ey eb hb1 hb0 hxy hz ht h0 hsz hn1
        go_wp2_with (first
          | (go_at_call 42; (with_reducible refine (KQ.out _ _ hr.out).mono ?_); rintro e w3 ⟨v3, rfl, hr3, hb3⟩; have HR3 := Lib.hid hr3; have HB3 := Lib.hid (hb.out.trans hb3); clear hr3 hb3)
          | (go_at_call 43; (with_reducible refine (KS.out _ _ HB3.out HR3.out).mono ?_); rintro e w4 ⟨v4, rfl, hr4, hb4⟩; rw [HEX.out] at hr4; have HR4 := Lib.hid hr4; have HB4 := Lib.hid (HB3.out.trans hb4); clear hr4 hb4))
        go_roundw
        case rel => exact ⟨_, s, rfl, rfl, HT.out, HR4, HB4⟩
        case measure => simp [intOf] <;> omega

set_option maxRecDepth 100000 in
theorem pPow_long (W : World) (va : Value) (A n : Nat) (ha : Nu W va A) (hn : n < 9223372036854775808) (hs : 262144 < blen A * n) :
    Calls Try.prog 23 #[va, .int .i64 (n : Int)] W (RwErr .u64 W [] 4) := by
  have KT := Lib.hid (ptooLong_any W va A n ha hn)
  rw [decide_eq_true hs] at KT
  have d0 : decide ((n : Int) < 0) = false := decide_eq_false (by omega)
  clear hs ha
  go_enter Try.func23, Try.ntmps23
  go_wp2_with (go_at_call 40; (with_reducible refine KT.out.mono ?_); rintro e w2 ⟨rfl, hb2⟩)
  go_ret2
  exact RwErr.mk (Rw.nil _ _) hb2
set_option maxRecDepth 100000 in
theorem pPow_neg (W : World) (va : Value) (n : Int) (hn : n < 0) :
    Calls Try.prog 23 #[va, .int .i64 n] W (RwErr .u64 W [] 1) := by
  have d0 : decide (n < 0) = true := decide_eq_true hn
  go_enter Try.func23, Try.ntmps23
  go_wp2
  go_ret2
  exact RwErr.mk (Rw.nil _ _) (Bl.refl _)
end Go.Proofs.Ytfmkbeffhdphfaa
