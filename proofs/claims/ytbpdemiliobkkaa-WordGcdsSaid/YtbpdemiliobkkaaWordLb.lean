/-
  The walks of the statements of the first layer that divide: each returns true, whatever it is given.
-/
import Derived.Test.YtbpdemiliobkkaaWordLa
import Derived.Test.YtbpdemiliobkkaaWordH
namespace Go.Proofs.Ytbpdemiliobkkaa
open Go.RowKit
set_option linter.unusedVariables false

set_option maxRecDepth 100000 in
theorem wordDivides_walk (hi lo d : Nat) (hh : hi < 18446744073709551616) (hlo : lo < 18446744073709551616) (hd : d < 18446744073709551616) (w : World) :
    Calls Try.prog 4 #[.int .u64 (hi : Int), .int .u64 (lo : Int), .int .u64 (d : Int)] w fun e w' => e = .returned (.bool true) ∧ Q w w' := by
  have D1 := Lib.hid (fun w => div_any hi lo d hh hlo hd w)
  have D2 := Lib.hid (fun w => rdiv_any hi lo d hlo hd w)
  have L1 := Lib.hid (fun w => len_any lo hlo w)
  have L2 := Lib.hid (fun w => rlen_any lo hlo w)
  have G1 := Lib.hid (fun w => gcd_any lo d hlo hd w)
  have G2 := Lib.hid (fun w => rgcd_any lo d hlo hd w)
  clear hh hlo hd
  go_enter Try.func4, Try.ntmps4
  go_wp2_with (first
    | (go_at_call 11; refine (shown_any _).mono ?_; rintro e w' ⟨rfl, hq1⟩)
    | (go_at_call 18; refine (D1.out _).mono ?_; rintro e w' ⟨rfl, hq2⟩)
    | (go_at_call 19; refine (D2.out _).mono ?_; rintro e w' ⟨rfl, rfl⟩)
    | (go_at_call 20; refine (L1.out _).mono ?_; rintro e w' ⟨rfl, rfl⟩)
    | (go_at_call 21; refine (L2.out _).mono ?_; rintro e w' ⟨rfl, rfl⟩)
    | (go_at_call 22; refine (G1.out _).mono ?_; rintro e w' ⟨rfl, hq3⟩)
    | (go_at_call 23; refine (G2.out _).mono ?_; rintro e w' ⟨rfl, hq4⟩))
  go_ret
  exact ⟨rfl, ((hq1.trans hq2).trans hq3).trans hq4⟩

/-! ### Quotient times divisor, and what is left -/
theorem whole_all (hi lo d : Nat) (hlo : lo < 18446744073709551616) (hd : d < 18446744073709551616) (h : hi < d) :
    ∃ q r h1 l1 c : Nat, num hi lo / d = q ∧ num hi lo % d = r ∧ r < d ∧ q < 18446744073709551616 ∧ mulH q d = h1 ∧ mulL q d = l1 ∧ addS l1 r 0 = lo ∧ addC l1 r 0 = c ∧ IntKind.u64.wrap ((h1 : Int) + (c : Int)) = (hi : Int) := by
  have hr : num hi lo % d < d := Nat.mod_lt _ (by omega)
  have hq : num hi lo / d < 18446744073709551616 := by
    rw [Nat.div_lt_iff_lt_mul (by omega)]
    unfold num; omega
  have hn : num hi lo / d * d + num hi lo % d = num hi lo := Nat.div_add_mod' _ _
  have hm := mul_parts (num hi lo / d) d
  have hl := mulL_lt (num hi lo / d) d
  have hu : un 0 = 0 := rfl
  generalize num hi lo / d = q at *
  generalize num hi lo % d = r at *
  have ha := add_parts (mulL q d) r 0
  have hs := addS_lt (mulL q d) r 0
  rw [hu] at ha
  unfold num at hn
  generalize hL : mulL q d = l1 at *
  generalize hH : mulH q d = h1 at *
  generalize q * d = p at *
  have e1 : addS l1 r 0 = lo := by omega
  refine ⟨q, r, h1, l1, _, rfl, rfl, hr, hq, hH, hL, e1, rfl, ?_⟩
  rw [IntKind.wrap_u64]
  omega

set_option maxRecDepth 100000 in
theorem wordWhole_walk (hi lo d : Nat) (hh : hi < 18446744073709551616) (hlo : lo < 18446744073709551616) (hd : d < 18446744073709551616) (w : World) :
    Calls Try.prog 6 #[.int .u64 (hi : Int), .int .u64 (lo : Int), .int .u64 (d : Int)] w fun e w' => e = .returned (.bool true) ∧ Q w w' := by
  have D := fun w => div_any hi lo d hh hlo hd w
  by_cases h0 : d = 0
  · have e1 : divQ hi lo d = 0 := by unfold divQ; rw [if_pos (by omega)]
    have e2 : divR hi lo d = 0 := by unfold divR; rw [if_pos (by omega)]
    have e3 : divE hi d = 2 := by unfold divE; rw [if_pos h0]
    rw [e1, e2, e3] at D
    clear e1 e2 e3
    subst h0
    have D1 : Hid (∀ w, Calls Try.prog 18 #[.int .u64 (hi : Int), .int .u64 (lo : Int), .int .u64 0] w fun e w' => e = .returned (.tuple #[.int .u64 0, .int .u64 0, .int .i64 2]) ∧ Q w w') := D
    clear D hh hlo hd
    go_enter Try.func6, Try.ntmps6
    go_wp2_with (first
      | (go_at_call 11; refine (shown_any _).mono ?_; rintro e w' ⟨rfl, hq1⟩)
      | (go_at_call 18; refine (D1.out _).mono ?_; rintro e w' ⟨rfl, hq2⟩))
    go_ret
    exact ⟨rfl, hq1.trans hq2⟩
  · have b0 : ((d : Int) == 0) = false := by rw [beq_eq_false_iff_ne]; omega
    by_cases h1 : d ≤ hi
    · have e1 : divQ hi lo d = 0 := by unfold divQ; rw [if_pos h1]
      have e2 : divR hi lo d = 0 := by unfold divR; rw [if_pos h1]
      have e3 : divE hi d = 1 := by unfold divE; rw [if_neg h0, if_pos h1]
      rw [e1, e2, e3] at D
      clear e1 e2 e3
      have D1 : Hid (∀ w, Calls Try.prog 18 #[.int .u64 (hi : Int), .int .u64 (lo : Int), .int .u64 (d : Int)] w fun e w' => e = .returned (.tuple #[.int .u64 0, .int .u64 0, .int .i64 1]) ∧ Q w w') := D
      clear D hh hlo hd
      go_enter Try.func6, Try.ntmps6
      go_wp2_with (first
        | (go_at_call 11; refine (shown_any _).mono ?_; rintro e w' ⟨rfl, hq1⟩)
        | (go_at_call 18; refine (D1.out _).mono ?_; rintro e w' ⟨rfl, hq2⟩))
      go_ret
      exact ⟨rfl, hq1.trans hq2⟩
    · obtain ⟨q, r, m1, l1, c, f1, f2, f3, f4, f5, f6, f7, f8, f9⟩ := whole_all hi lo d hlo hd (by omega)
      have e1 : divQ hi lo d = q := by unfold divQ; rw [if_neg h1]; exact f1
      have e2 : divR hi lo d = r := by unfold divR; rw [if_neg h1]; exact f2
      have e3 : divE hi d = 0 := by unfold divE; rw [if_neg h0, if_neg h1]
      rw [e1, e2, e3] at D
      have M := fun w => mul_any q d f4 hd w
      rw [f5, f6] at M
      have M1 := Lib.hid M
      have A1 := Lib.hid (add_to l1 r lo c f7 f8)
      clear e1 e2 e3 M f1 f2 f4 f5 f6 f7 f8 h1
      have D1 : Hid (∀ w, Calls Try.prog 18 #[.int .u64 (hi : Int), .int .u64 (lo : Int), .int .u64 (d : Int)] w fun e w' => e = .returned (.tuple #[.int .u64 (q : Int), .int .u64 (r : Int), .int .i64 0]) ∧ Q w w') := D
      clear D hh hlo hd
      go_enter Try.func6, Try.ntmps6
      go_wp2_with (first
        | (go_at_call 11; refine (shown_any _).mono ?_; rintro e w' ⟨rfl, hq1⟩)
        | (go_at_call 18; refine (D1.out _).mono ?_; rintro e w' ⟨rfl, hq2⟩)
        | (go_at_call 16; refine (M1.out _).mono ?_; rintro e w' ⟨rfl, rfl⟩)
        | (go_at_call 12; refine (A1.out _).mono ?_; rintro e w' ⟨rfl, rfl⟩))
      go_ret
      exact ⟨rfl, hq1.trans hq2⟩

/-! ### Greatest divisors -/
theorem rem0 (a g : Nat) (h : a % g = 0) : (a : Int) % (g : Int) = 0 := by rw [← Int.natCast_emod, h]; rfl

theorem gcds_k (a b k : Nat) (h1 : a % k = 0) (h2 : b % k = 0) : Nat.gcd a b % k = 0 :=
  Nat.mod_eq_zero_of_dvd (Nat.dvd_gcd (Nat.dvd_of_mod_eq_zero h1) (Nat.dvd_of_mod_eq_zero h2))

set_option maxRecDepth 100000 in
set_option maxHeartbeats 1000000 in
theorem wordGcds_walk (a b k : Nat) (ha : a < 18446744073709551616) (hb : b < 18446744073709551616) (hk : k < 18446744073709551616) (w : World) :
    Calls Try.prog 8 #[.int .u64 (a : Int), .int .u64 (b : Int), .int .u64 (k : Int)] w fun e w' => e = .returned (.bool true) ∧ Q w w' := by
  obtain ⟨g, hg⟩ : ∃ g, Nat.gcd a b = g := ⟨_, rfl⟩
  have G1 := fun w => gcd_any a b ha hb w
  have G2 := fun w => gcd_any b a hb ha w
  rw [Nat.gcd_comm b a] at G2
  have da := Nat.gcd_dvd_left a b
  have db := Nat.gcd_dvd_right a b
  have hkk := gcds_k a b k
  have g0 : 0 < a → 0 < Nat.gcd a b := fun h => Nat.gcd_pos_of_pos_left b h
  have z1 : a = 0 → Nat.gcd a b = a + b := by intro h; subst h; rw [Nat.gcd_zero_left]; omega
  have z2 : b = 0 → Nat.gcd a b = a + b := by intro h; subst h; rw [Nat.gcd_zero_right]; omega
  rw [hg] at G1 G2 da db hkk g0 z1 z2
  clear hg
  have ra := rem0 a g (Nat.mod_eq_zero_of_dvd da)
  have rb := rem0 b g (Nat.mod_eq_zero_of_dvd db)
  have HG1 := Lib.hid G1
  have HG2 := Lib.hid G2
  clear G1 G2 da db hk
  by_cases ca : a = 0
  · have hz := z1 ca
    clear z1 z2 g0 hkk ra rb
    subst ca
    obtain rfl : g = b := by omega
    clear hz
    go_enter Try.func8, Try.ntmps8
    go_wp2_with (first
      | (go_at_call 11; refine (shown_any _).mono ?_; rintro e w' ⟨rfl, hq1⟩)
      | (go_at_call 22; refine (HG1.out _).mono ?_; rintro e w' ⟨rfl, hq2⟩))
    go_ret
    exact ⟨rfl, hq1.trans hq2⟩
  · have pa : 0 < a := by omega
    have pg := g0 pa
    have na : ((a : Int) == 0) = false := by rw [beq_eq_false_iff_ne]; omega
    by_cases cb : b = 0
    · have hz := z2 cb
      clear z1 z2 g0 hkk ra rb
      subst cb
      obtain rfl : g = a := by omega
      clear hz
      go_enter Try.func8, Try.ntmps8
      go_wp2_with (first
        | (go_at_call 11; refine (shown_any _).mono ?_; rintro e w' ⟨rfl, hq1⟩)
        | (go_at_call 22; refine (HG1.out _).mono ?_; rintro e w' ⟨rfl, hq2⟩))
      go_ret
      exact ⟨rfl, hq1.trans hq2⟩
    · have nb : ((b : Int) == 0) = false := by rw [beq_eq_false_iff_ne]; omega
      clear z1 z2 g0 ha hb
      by_cases ck : k = 0
      · clear hkk
        subst ck
        go_enter Try.func8, Try.ntmps8
        go_wp2_with (first
          | (go_at_call 11; refine (shown_any _).mono ?_; rintro e w' ⟨rfl, hq1⟩)
          | (go_at_call 22; (with_reducible refine (HG1.out _).mono ?_); rintro e w' ⟨rfl, hq2⟩)
          | (go_at_call 22; (with_reducible refine (HG2.out _).mono ?_); rintro e w' ⟨rfl, hq3⟩))
        go_ret
        exact ⟨rfl, (hq1.trans hq2).trans hq3⟩
      · have pk : 0 < k := by omega
        clear ck
        by_cases c1 : a % k = 0
        · have e1 := rem0 a k c1
          by_cases c2 : b % k = 0
          · have e2 := rem0 b k c2
            have e3 := rem0 g k (hkk c1 c2)
            clear c1 c2 hkk
            go_enter Try.func8, Try.ntmps8
            go_wp2_with (first
              | (go_at_call 11; refine (shown_any _).mono ?_; rintro e w' ⟨rfl, hq1⟩)
              | (go_at_call 22; (with_reducible refine (HG1.out _).mono ?_); rintro e w' ⟨rfl, hq2⟩)
              | (go_at_call 22; (with_reducible refine (HG2.out _).mono ?_); rintro e w' ⟨rfl, hq3⟩))
            go_ret
            exact ⟨rfl, (hq1.trans hq2).trans hq3⟩
          · have e2 : ((b : Int) % (k : Int) == 0) = false := by rw [beq_eq_false_iff_ne, ← Int.natCast_emod]; omega
            clear c1 c2 hkk
            go_enter Try.func8, Try.ntmps8
            go_wp2_with (first
              | (go_at_call 11; refine (shown_any _).mono ?_; rintro e w' ⟨rfl, hq1⟩)
              | (go_at_call 22; (with_reducible refine (HG1.out _).mono ?_); rintro e w' ⟨rfl, hq2⟩)
              | (go_at_call 22; (with_reducible refine (HG2.out _).mono ?_); rintro e w' ⟨rfl, hq3⟩))
            go_ret
            exact ⟨rfl, (hq1.trans hq2).trans hq3⟩
        · have e1 : ((a : Int) % (k : Int) == 0) = false := by rw [beq_eq_false_iff_ne, ← Int.natCast_emod]; omega
          clear c1 hkk
          go_enter Try.func8, Try.ntmps8
          go_wp2_with (first
            | (go_at_call 11; refine (shown_any _).mono ?_; rintro e w' ⟨rfl, hq1⟩)
            | (go_at_call 22; (with_reducible refine (HG1.out _).mono ?_); rintro e w' ⟨rfl, hq2⟩)
            | (go_at_call 22; (with_reducible refine (HG2.out _).mono ?_); rintro e w' ⟨rfl, hq3⟩))
          go_ret
          exact ⟨rfl, (hq1.trans hq2).trans hq3⟩
end Go.Proofs.Ytbpdemiliobkkaa
