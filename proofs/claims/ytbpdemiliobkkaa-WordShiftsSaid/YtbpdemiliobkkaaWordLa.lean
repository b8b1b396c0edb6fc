/-
  The walks of the statements of the first layer: each returns true, whatever it is given.
-/
import Derived.Test.YtbpdemiliobkkaaWordS
namespace Go.Proofs.Ytbpdemiliobkkaa
open Go.RowKit
set_option linter.unusedVariables false

/-! ### The plain laws -/
theorem addC_le (a b c : Nat) (ha : a < 18446744073709551616) (hb : b < 18446744073709551616) : addC a b c ≤ 1 := by
  have := un_le c
  unfold addC; omega
theorem addS_lt (a b c : Nat) : addS a b c < 18446744073709551616 := Nat.mod_lt _ (by omega)
theorem back_d (a b c : Nat) (ha : a < 18446744073709551616) (hb : b < 18446744073709551616) : subD (addS a b c) b c = a := by
  have := un_le c
  unfold subD addS; omega
theorem back_b (a b c : Nat) (ha : a < 18446744073709551616) (hb : b < 18446744073709551616) : subB (addS a b c) b c = addC a b c := by
  have := un_le c
  unfold subB addS addC
  split <;> omega

set_option maxRecDepth 100000 in
theorem wordBack_walk (a b c : Nat) (ha : a < 18446744073709551616) (hb : b < 18446744073709551616) (hc : c < 18446744073709551616) (w : World) :
    Calls Try.prog 5 #[.int .u64 (a : Int), .int .u64 (b : Int), .int .u64 (c : Int)] w fun e w' => e = .returned (.bool true) ∧ Q w w' := by
  have C2 := fun w => sub_any (addS a b c) b c w
  rw [back_d a b c ha hb, back_b a b c ha hb] at C2
  have H2 := Lib.hid C2
  have hl : decide (((addC a b c : Nat) : Int) ≤ 1) = true := by rw [decide_eq_true_iff]; have := addC_le a b c ha hb; omega
  clear C2 ha hb hc
  go_enter Try.func5, Try.ntmps5
  go_wp2_with (first
    | (go_at_call 11; refine (shown_any _).mono ?_; rintro e w' ⟨rfl, hq⟩)
    | (go_at_call 12; refine (add_any _ _ _ _).mono ?_; rintro e w' ⟨rfl, rfl⟩)
    | (go_at_call 14; refine (H2.out _).mono ?_; rintro e w' ⟨rfl, rfl⟩))
  go_ret
  exact ⟨rfl, hq⟩

/-! ### Products -/
theorem mulH_lt (a b : Nat) (ha : a < 18446744073709551616) (hb : b < 18446744073709551616) : mulH a b < 18446744073709551616 := by
  unfold mulH
  rw [Nat.div_lt_iff_lt_mul (by omega)]
  exact Nat.mul_lt_mul'' ha hb
theorem mulL_lt (a b : Nat) : mulL a b < 18446744073709551616 := Nat.mod_lt _ (by omega)
theorem mul_parts (a b : Nat) : mulH a b * 18446744073709551616 + mulL a b = a * b := Nat.div_add_mod' _ _
theorem mulH_comm (a b : Nat) : mulH a b = mulH b a := by unfold mulH; rw [Nat.mul_comm]
theorem mulL_comm (a b : Nat) : mulL a b = mulL b a := by unfold mulL; rw [Nat.mul_comm]

set_option maxRecDepth 100000 in
theorem wordReckons_walk (a b c : Nat) (ha : a < 18446744073709551616) (hb : b < 18446744073709551616) (hc : c < 18446744073709551616) (w : World) :
    Calls Try.prog 3 #[.int .u64 (a : Int), .int .u64 (b : Int), .int .u64 (c : Int)] w fun e w' => e = .returned (.bool true) ∧ Q w w' := by
  have H3 := Lib.hid (fun w => radd_any a b c ha hb hc w)
  have H4 := Lib.hid (fun w => rsub_any a b c ha hb hc w)
  have H5 := Lib.hid (fun w => mul_any a b ha hb w)
  have H6 := Lib.hid (fun w => rmul_any a b ha hb w)
  clear ha hb hc
  go_enter Try.func3, Try.ntmps3
  go_wp2_with (first
    | (go_at_call 11; refine (shown_any _).mono ?_; rintro e w' ⟨rfl, hq⟩)
    | (go_at_call 12; refine (add_any _ _ _ _).mono ?_; rintro e w' ⟨rfl, rfl⟩)
    | (go_at_call 14; refine (sub_any _ _ _ _).mono ?_; rintro e w' ⟨rfl, rfl⟩)
    | (go_at_call 13; refine (H3.out _).mono ?_; rintro e w' ⟨rfl, rfl⟩)
    | (go_at_call 15; refine (H4.out _).mono ?_; rintro e w' ⟨rfl, rfl⟩)
    | (go_at_call 16; refine (H5.out _).mono ?_; rintro e w' ⟨rfl, rfl⟩)
    | (go_at_call 17; refine (H6.out _).mono ?_; rintro e w' ⟨rfl, rfl⟩))
  go_ret
  exact ⟨rfl, hq⟩

/-! ### Turned round -/
theorem addS_comm (a b c : Nat) : addS b a c = addS a b c := by unfold addS; rw [Nat.add_comm b a]
theorem addC_comm (a b c : Nat) : addC b a c = addC a b c := by unfold addC; rw [Nat.add_comm b a]

/-- A call of word.Sub without a borrow, its answers under names. -/
theorem sub_to (a b d z : Nat) (h1 : subD a b 0 = d) (h2 : subB a b 0 = z) (w : World) :
    Calls Try.prog 14 #[.int .u64 (a : Int), .int .u64 (b : Int), .int .u64 0] w fun e w' => e = .returned (.tuple #[.int .u64 (d : Int), .int .u64 (z : Int)]) ∧ w = w' := by
  have h := sub_any a b 0 w
  rw [h1, h2] at h
  exact h
/-- A call of word.Add without a carry, its answers under names. -/
theorem add_to (a b s x : Nat) (h1 : addS a b 0 = s) (h2 : addC a b 0 = x) (w : World) :
    Calls Try.prog 12 #[.int .u64 (a : Int), .int .u64 (b : Int), .int .u64 0] w fun e w' => e = .returned (.tuple #[.int .u64 (s : Int), .int .u64 (x : Int)]) ∧ w = w' := by
  have h := add_any a b 0 w
  rw [h1, h2] at h
  exact h

theorem turned_lt (a b : Nat) (h : a < b) (hb : b < 18446744073709551616) :
    ∃ d e : Nat, subD a b 0 = d ∧ subB a b 0 = 1 ∧ subD b a 0 = e ∧ subB b a 0 = 0 ∧ IntKind.u64.wrap (0 - (e : Int)) = (d : Int) ∧ IntKind.u64.wrap (-(e : Int)) = (d : Int) ∧ IntKind.u64.wrap (0 - (d : Int)) = (e : Int) ∧ IntKind.u64.wrap (-(d : Int)) = (e : Int) := by
  have hu : un 0 = 0 := rfl
  have hd : subD a b 0 = a + 18446744073709551616 - b := by unfold subD; rw [hu]; omega
  have he : subD b a 0 = b - a := by unfold subD; rw [hu]; omega
  refine ⟨_, _, rfl, ?_, rfl, ?_, ?_, ?_, ?_, ?_⟩
  · unfold subB; rw [hu, if_pos (by omega)]
  · unfold subB; rw [hu, if_neg (by omega)]
  all_goals
    rw [hd, he, IntKind.wrap_u64]
    omega
theorem turned_eq (a : Nat) (ha : a < 18446744073709551616) : subD a a 0 = 0 ∧ subB a a 0 = 0 := by
  have hu : un 0 = 0 := rfl
  refine ⟨?_, ?_⟩
  · unfold subD; rw [hu]; omega
  · unfold subB; rw [hu, if_neg (by omega)]

set_option maxRecDepth 100000 in
theorem wordTurned_walk (a b c : Nat) (ha : a < 18446744073709551616) (hb : b < 18446744073709551616) (hc : c < 18446744073709551616) (w : World) :
    Calls Try.prog 10 #[.int .u64 (a : Int), .int .u64 (b : Int), .int .u64 (c : Int)] w fun e w' => e = .returned (.bool true) ∧ Q w w' := by
  have A1 := fun w => add_any a b c w
  have A2 := fun w => add_any b a c w
  rw [addS_comm, addC_comm] at A2
  have M1 := fun w => mul_any a b ha hb w
  have M2 := fun w => mul_any b a hb ha w
  rw [mulH_comm, mulL_comm] at M2
  have HA1 := Lib.hid A1
  have HA2 := Lib.hid A2
  have HM1 := Lib.hid M1
  have HM2 := Lib.hid M2
  clear A1 A2 M1 M2
  rcases Nat.lt_trichotomy a b with h | h | h
  · obtain ⟨d, e, hd, hz, he, hw, r1, r2, _, _⟩ := turned_lt a b h hb
    have S1 := Lib.hid (sub_to a b d 1 hd hz)
    have S2 := Lib.hid (sub_to b a e 0 he hw)
    have n : ((a : Int) == (b : Int)) = false := by rw [beq_eq_false_iff_ne]; omega
    have n2 : ((a : Int) != (b : Int)) = true := by rw [bne_iff_ne]; omega
    clear hd hz he hw ha hb hc h
    go_enter Try.func10, Try.ntmps10
    go_wp2_with (first
      | (go_at_call 11; refine (shown_any _).mono ?_; rintro e w' ⟨rfl, hq⟩)
      | (go_at_call 12; (with_reducible refine (HA1.out _).mono ?_); rintro e w' ⟨rfl, rfl⟩)
      | (go_at_call 12; (with_reducible refine (HA2.out _).mono ?_); rintro e w' ⟨rfl, rfl⟩)
      | (go_at_call 16; (with_reducible refine (HM1.out _).mono ?_); rintro e w' ⟨rfl, rfl⟩)
      | (go_at_call 16; (with_reducible refine (HM2.out _).mono ?_); rintro e w' ⟨rfl, rfl⟩)
      | (go_at_call 14; (with_reducible refine (S1.out _).mono ?_); rintro e w' ⟨rfl, rfl⟩)
      | (go_at_call 14; (with_reducible refine (S2.out _).mono ?_); rintro e w' ⟨rfl, rfl⟩))
    go_ret
    exact ⟨rfl, hq⟩
  · subst h
    obtain ⟨hd, hz⟩ := turned_eq a ha
    have S1 := Lib.hid (sub_to a a 0 0 hd hz)
    have S2 := Lib.hid (sub_to a a 0 0 hd hz)
    clear hd hz ha hb hc
    go_enter Try.func10, Try.ntmps10
    go_wp2_with (first
      | (go_at_call 11; refine (shown_any _).mono ?_; rintro e w' ⟨rfl, hq⟩)
      | (go_at_call 12; (with_reducible refine (HA1.out _).mono ?_); rintro e w' ⟨rfl, rfl⟩)
      | (go_at_call 12; (with_reducible refine (HA2.out _).mono ?_); rintro e w' ⟨rfl, rfl⟩)
      | (go_at_call 16; (with_reducible refine (HM1.out _).mono ?_); rintro e w' ⟨rfl, rfl⟩)
      | (go_at_call 16; (with_reducible refine (HM2.out _).mono ?_); rintro e w' ⟨rfl, rfl⟩)
      | (go_at_call 14; (with_reducible refine (S1.out _).mono ?_); rintro e w' ⟨rfl, rfl⟩)
      | (go_at_call 14; (with_reducible refine (S2.out _).mono ?_); rintro e w' ⟨rfl, rfl⟩))
    go_ret
    exact ⟨rfl, hq⟩
  · obtain ⟨d, e, hd, hz, he, hw, _, _, r1, r2⟩ := turned_lt b a h ha
    have S1 := Lib.hid (sub_to b a d 1 hd hz)
    have S2 := Lib.hid (sub_to a b e 0 he hw)
    have n : ((a : Int) == (b : Int)) = false := by rw [beq_eq_false_iff_ne]; omega
    have n2 : ((a : Int) != (b : Int)) = true := by rw [bne_iff_ne]; omega
    clear hd hz he hw ha hb hc h
    go_enter Try.func10, Try.ntmps10
    go_wp2_with (first
      | (go_at_call 11; refine (shown_any _).mono ?_; rintro e w' ⟨rfl, hq⟩)
      | (go_at_call 12; (with_reducible refine (HA1.out _).mono ?_); rintro e w' ⟨rfl, rfl⟩)
      | (go_at_call 12; (with_reducible refine (HA2.out _).mono ?_); rintro e w' ⟨rfl, rfl⟩)
      | (go_at_call 16; (with_reducible refine (HM1.out _).mono ?_); rintro e w' ⟨rfl, rfl⟩)
      | (go_at_call 16; (with_reducible refine (HM2.out _).mono ?_); rintro e w' ⟨rfl, rfl⟩)
      | (go_at_call 14; (with_reducible refine (S1.out _).mono ?_); rintro e w' ⟨rfl, rfl⟩)
      | (go_at_call 14; (with_reducible refine (S2.out _).mono ?_); rintro e w' ⟨rfl, rfl⟩))
    go_ret
    exact ⟨rfl, hq⟩

/-! ### A product of a sum -/
/-- What stands in the law, as linear facts on the numbers that the calls answer. -/
theorem splits_lin (P R T AX h l h1 l1 h2 l2 m y n z t u : Nat) (e : P + R = T + AX * 18446744073709551616)
    (eT : h * 18446744073709551616 + l = T) (eP : h1 * 18446744073709551616 + l1 = P) (eR : h2 * 18446744073709551616 + l2 = R)
    (ll : l < 18446744073709551616) (lm : m < 18446744073709551616) (ln : n < 18446744073709551616) (lt : t < 18446744073709551616)
    (em : y * 18446744073709551616 + m = l1 + l2) (en : z * 18446744073709551616 + n = h1 + h2 + y) (et : u * 18446744073709551616 + t = h + AX) : m = l ∧ t = n ∧ u = z := by omega

theorem add_parts (a b c : Nat) : addC a b c * 18446744073709551616 + addS a b c = a + b + un c := Nat.div_add_mod' _ _
theorem un_of_le (y : Nat) (h : y ≤ 1) : un y = y := by unfold un; split <;> omega

theorem splits_all (a b c : Nat) (ha : a < 18446744073709551616) (hb : b < 18446744073709551616) (hc : c < 18446744073709551616) :
    ∃ p : Nat, IntKind.u64.wrap ((a : Int) * ((addC b c 0 : Nat) : Int)) = (p : Int) ∧
      addS (mulL a b) (mulL a c) 0 = mulL a (addS b c 0) ∧
      addS (mulH a (addS b c 0)) p 0 = addS (mulH a b) (mulH a c) (addC (mulL a b) (mulL a c) 0) ∧
      addC (mulH a (addS b c 0)) p 0 = addC (mulH a b) (mulH a c) (addC (mulL a b) (mulL a c) 0) := by
  have hx := addC_le b c 0 hb hc
  have hu : un 0 = 0 := rfl
  have hs := add_parts b c 0
  rw [hu] at hs
  have e : a * b + a * c = a * addS b c 0 + a * addC b c 0 * 18446744073709551616 := by
    rw [← Nat.mul_add, Nat.mul_assoc, ← Nat.mul_add]
    congr 1
    omega
  have hy := addC_le (mulL a b) (mulL a c) 0 (mulL_lt a b) (mulL_lt a c)
  have hp : a * addC b c 0 < 18446744073709551616 := by
    have : a * addC b c 0 ≤ a * 1 := Nat.mul_le_mul_left a hx
    omega
  have em := add_parts (mulL a b) (mulL a c) 0
  have en := add_parts (mulH a b) (mulH a c) (addC (mulL a b) (mulL a c) 0)
  have et := add_parts (mulH a (addS b c 0)) (a * addC b c 0) 0
  rw [hu] at em et
  rw [un_of_le _ hy] at en
  obtain ⟨r1, r2, r3⟩ := splits_lin _ _ _ _ _ _ _ _ _ _ _ _ _ _ _ _ e (mul_parts a (addS b c 0)) (mul_parts a b) (mul_parts a c) (mulL_lt a _) (addS_lt _ _ _) (addS_lt _ _ _) (addS_lt _ _ _) em en et
  exact ⟨a * addC b c 0, by rw [← Int.natCast_mul]; exact w64 _ hp, r1, r2, r3⟩

set_option maxRecDepth 100000 in
theorem wordSplits_walk (a b c : Nat) (ha : a < 18446744073709551616) (hb : b < 18446744073709551616) (hc : c < 18446744073709551616) (w : World) :
    Calls Try.prog 7 #[.int .u64 (a : Int), .int .u64 (b : Int), .int .u64 (c : Int)] w fun e w' => e = .returned (.bool true) ∧ Q w w' := by
  obtain ⟨p, rp, h1, h2, h3⟩ := splits_all a b c ha hb hc
  have M0 := Lib.hid (fun w => mul_any a (addS b c 0) ha (addS_lt _ _ _) w)
  have M1 := Lib.hid (fun w => mul_any a b ha hb w)
  have M2 := Lib.hid (fun w => mul_any a c ha hc w)
  have A1 := Lib.hid (add_to b c _ _ rfl rfl)
  have A2 := Lib.hid (add_to (mulL a b) (mulL a c) _ _ h1 rfl)
  have A3 := Lib.hid (fun w => add_any (mulH a b) (mulH a c) (addC (mulL a b) (mulL a c) 0) w)
  have A4 := Lib.hid (add_to (mulH a (addS b c 0)) p _ _ h2 h3)
  clear h1 h2 h3 ha hb hc
  go_enter Try.func7, Try.ntmps7
  go_wp2_with (first
    | (go_at_call 11; refine (shown_any _).mono ?_; rintro e w' ⟨rfl, hq⟩)
    | (go_at_call 12; (with_reducible refine (A1.out _).mono ?_); rintro e w' ⟨rfl, rfl⟩)
    | (go_at_call 12; (with_reducible refine (A2.out _).mono ?_); rintro e w' ⟨rfl, rfl⟩)
    | (go_at_call 12; (with_reducible refine (A3.out _).mono ?_); rintro e w' ⟨rfl, rfl⟩)
    | (go_at_call 12; (with_reducible refine (A4.out _).mono ?_); rintro e w' ⟨rfl, rfl⟩)
    | (go_at_call 16; (with_reducible refine (M0.out _).mono ?_); rintro e w' ⟨rfl, rfl⟩)
    | (go_at_call 16; (with_reducible refine (M1.out _).mono ?_); rintro e w' ⟨rfl, rfl⟩)
    | (go_at_call 16; (with_reducible refine (M2.out _).mono ?_); rintro e w' ⟨rfl, rfl⟩))
  go_ret
  exact ⟨rfl, hq⟩
end Go.Proofs.Ytbpdemiliobkkaa
