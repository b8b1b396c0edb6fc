/-
  The document's answers of layer 6 over numbers: Div, Guess, Gcd, Pow.
-/
import Derived.Test.YtfmkbeffhdphfaaPk31
import Derived.Test.YtfmkbeffhdphfaaPk37
import Derived.Test.YtfmkbeffhdphfaaPk38
import Derived.Test.YtfmkbeffhdphfaaPk40
namespace Go.Proofs.Ytfmkbeffhdphfaa
open Go.RowKit
set_option linter.unusedVariables false
set_option linter.unusedSimpArgs false

set_option maxRecDepth 100000 in
set_option maxHeartbeats 2000000 in
theorem r6div_any (W : World) (va vd : Value) (A D : Nat) (ha : Nu W va A) (hd : Nu W vd D) (hsa : Sd A) (hsd : Sd D) (hDp : 0 < D) :
    Calls Try.prog 13 #[va, vd] W (RwEnd3 W (dig 18446744073709551616 (A / D)) (dig 18446744073709551616 (A % D)) 0) := by
  have KD := Lib.hid (kDg hd)
  have KA := Lib.hid (fun W' (g : Bl W W') => kDg (ha.bl g))
  have KV := Lib.hid (kDiv A D hDp hsa hsd)
  have KQ := Lib.hid (kWords (A / D) (Sz.le hsa (Nat.div_le_self _ _)))
  have KR := Lib.hid (kWords (A % D) (Sz.le hsa (Nat.mod_le _ _)))
  have hp := dig_len_pos 65536 (by decide) D hDp
  have hl := hsd.len
  obtain ⟨n, hn⟩ : ∃ n, (dig 65536 D).length = n := ⟨_, rfl⟩
  have n0 : ((n : Int) == 0) = false := by rw [beq_eq_false_iff_ne]; omega
  have HN := Lib.hid hn
  clear ha hd hsa hsd hDp hp hl hn
  go_enter Try.func13, Try.ntmps13
  go_wp2_with (first
    | (go_at_call 17; (with_reducible refine KD.out.mono ?_); rintro e w1 ⟨v1, rfl, hr, hb'⟩; obtain ⟨A1, k1, e1⟩ := rw_shape hr HN.out; subst e1; have D1 := Lib.hid hr; have G1 := Lib.hid hb'; clear hr hb')
    | (go_at_call 17; (with_reducible refine (KA.out _ G1.out).mono ?_); rintro e w2 ⟨v2, rfl, hr, hb'⟩; have D2 := Lib.hid hr; have D1' := Lib.hid (D1.out.bl hb'); have G2 := Lib.hid (G1.out.trans hb'); clear hr hb')
    | (go_at_call 33; (with_reducible refine (KV.out _ _ _ D2.out D1'.out).mono ?_); rintro e w3 ⟨v3, v4, rfl, hr, hs, hb'⟩; have D3 := Lib.hid hr; have D4 := Lib.hid hs; have G3 := Lib.hid (G2.out.trans hb'); clear hr hs hb')
    | (go_at_call 16; (with_reducible refine (KQ.out _ _ D3.out).mono ?_); rintro e w4 ⟨v5, rfl, hr, hb'⟩; have D5 := Lib.hid hr; have D4' := Lib.hid (D4.out.bl hb'); have G4 := Lib.hid (G3.out.trans hb'); clear hr hb')
    | (go_at_call 16; (with_reducible refine (KR.out _ _ D4'.out).mono ?_); rintro e w5 ⟨v6, rfl, hr, hb'⟩; have D6 := Lib.hid hr; have D5' := Lib.hid (D5.out.bl hb'); have G5 := Lib.hid (G4.out.trans hb'); clear hr hb'))
  go_ret3
  exact RwEnd3.mk D5'.out D6.out G5.out
set_option maxRecDepth 100000 in
theorem r6div0_any (W : World) (va vd : Value) (A : Nat) (ha : Nu W va A) (hd : Nu W vd 0) :
    Calls Try.prog 13 #[va, vd] W (RwEnd3 W [] [] 2) := by
  have KD := Lib.hid (kDg hd)
  rw [dig_zero] at KD
  clear ha hd
  go_enter Try.func13, Try.ntmps13
  go_wp2_with (go_at_call 17; (with_reducible refine KD.out.mono ?_); rintro e w1 ⟨v1, rfl, hr, hb'⟩; obtain ⟨A1, k1, e1⟩ := rw_shape hr (show ([] : List Nat).length = 0 from rfl); subst e1; have G1 := Lib.hid hb'; clear hr hb')
  go_ret3
  exact RwEnd3.mk (Rw.nil _ _) (Rw.nil _ _) G1.out

set_option maxRecDepth 100000 in
set_option maxHeartbeats 2000000 in
theorem r6guess_any (W : World) (va vd : Value) (A D : Nat) (ha : Nu W va A) (hd : Nu W vd D) (hsa : Sd A) (hsd : Sd D) :
    Calls Try.prog 19 #[va, vd] W fun e w => e = .returned (.int .u64 ((gsN A D : Nat) : Int)) ∧ Bl W w := by
  by_cases hD0 : D = 0
  · subst hD0
    have KD := Lib.hid (r6div0_any W va vd A ha hd)
    have eg : gsN A 0 = 0 := by unfold gsN; rw [if_pos rfl]
    rw [eg]
    clear ha hd hsa hsd eg
    go_enter Try.func19, Try.ntmps19
    go_wp2_with (go_at_call 13; (with_reducible refine KD.out.mono ?_); rintro e w1 ⟨q, r, rfl, hq, hr, hb'⟩)
    go_ret
    exact ⟨rfl, hb'⟩
  · have KD := Lib.hid (r6div_any W va vd A D ha hd hsa hsd (by omega))
    have hq : Sz 200 (A / D) := Sz.le hsa (Nat.div_le_self _ _)
    have hql := dig_len_of_lt 18446744073709551616 (by decide) (A / D) 200 hq
    have hge : D * 18446744073709551616 ≤ A ↔ 18446744073709551616 ≤ A / D := by rw [Nat.le_div_iff_mul_le (by omega), Nat.mul_comm]
    have hlt := dig_lt 18446744073709551616 (by decide) (A / D)
    obtain ⟨n, hn⟩ : ∃ n, (dig 18446744073709551616 (A / D)).length = n := ⟨_, rfl⟩
    rw [hn] at hql hlt
    have HN := Lib.hid hn
    by_cases h0 : A / D = 0
    · have hn0 : n = 0 := by rw [h0, dig_zero] at hn; exact hn.symm
      have eg : gsN A D = 0 := by unfold gsN; rw [if_neg hD0, if_neg (by rw [hge, h0]; omega), h0]
      rw [eg]
      subst hn0
      clear ha hd hsa hsd hD0 hq hql hge hlt hn eg h0
      go_enter Try.func19, Try.ntmps19
      go_wp2_with (go_at_call 13; (with_reducible refine KD.out.mono ?_); rintro e w1 ⟨q, r, rfl, hq, hr, hb'⟩; obtain ⟨A1, k1, e1⟩ := rw_shape hq HN.out; subst e1)
      go_ret
      exact ⟨rfl, hb'⟩
    · have hnp : 0 < n := by rw [← hn]; exact dig_len_pos 18446744073709551616 (by decide) _ (Nat.pos_of_ne_zero h0)
      have n0 : ((n : Int) == 0) = false := by rw [beq_eq_false_iff_ne]; omega
      by_cases hb : 18446744073709551616 ≤ A / D
      · have hn2 : 1 < n := by
          refine Nat.lt_of_not_le fun h => ?_
          have h1 : 18446744073709551616 ^ n ≤ 18446744073709551616 ^ 1 := Nat.pow_le_pow_right (by decide) h
          rw [Nat.pow_one] at h1
          omega
        have n1 : decide ((1 : Int) < (n : Int)) = true := decide_eq_true (by omega)
        have n2 : decide (1 < n) = true := decide_eq_true hn2
        have nb : (n : Int) ≤ 200 := by omega
        have eg : gsN A D = 18446744073709551615 := by unfold gsN; rw [if_neg hD0, if_pos (hge.2 hb)]
        rw [eg]
        clear ha hd hsa hsd hD0 hq hql hge hlt hn eg h0 hb hn2 hnp
        go_enter Try.func19, Try.ntmps19
        go_wp2_with (go_at_call 13; (with_reducible refine KD.out.mono ?_); rintro e w1 ⟨q, r, rfl, hq, hr, hb'⟩; obtain ⟨A1, k1, e1⟩ := rw_shape hq HN.out; subst e1; clear hq hr)
        go_ret
        exact ⟨rfl, hb'⟩
      · have eg : gsN A D = A / D := by unfold gsN; rw [if_neg hD0, if_neg (by rw [hge]; exact hb)]
        rw [eg]
        have ed : dig 18446744073709551616 (A / D) = [A / D] := by rw [dig_pos _ _ (by decide) (Nat.pos_of_ne_zero h0), Nat.mod_eq_of_lt (Nat.lt_of_not_le hb), Nat.div_eq_of_lt (Nat.lt_of_not_le hb), dig_zero]
        rw [ed] at KD
        obtain ⟨y, hy⟩ : ∃ y, A / D = y := ⟨_, rfl⟩
        rw [hy] at KD ⊢
        clear ha hd hsa hsd hD0 hq hql hge hlt hn eg h0 hb hnp n0 ed hy HN
        go_enter Try.func19, Try.ntmps19
        go_wp2_with (go_at_call 13; (with_reducible refine KD.out.mono ?_); rintro e w1 ⟨q, r, rfl, hq, hr, hb'⟩; obtain ⟨a1, k1, e1, hk1, x1⟩ := row1 hq; subst e1; have x0 := x1; rw [Addr.add_zero'] at x0; clear hq hr)
        go_ret
        exact ⟨rfl, hb'⟩
end Go.Proofs.Ytfmkbeffhdphfaa
