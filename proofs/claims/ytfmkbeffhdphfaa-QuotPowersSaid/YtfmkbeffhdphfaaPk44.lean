/-
  The walk of QuotPowers.
-/
import Derived.Test.YtfmkbeffhdphfaaPk31
import Derived.Test.YtfmkbeffhdphfaaPk43
namespace Go.Proofs.Ytfmkbeffhdphfaa
open Go.RowKit
set_option linter.unusedVariables false
set_option linter.unusedSimpArgs false

set_option maxRecDepth 100000 in
set_option maxHeartbeats 8000000 in
theorem quotPowers_walk (va : Value) (la : List Nat) (vb : Value) (lb : List Nat) (z : Int) (ha : All 18446744073709551616 la) (hb : All 18446744073709551616 lb) (hz : -9223372036854775808 ≤ z ∧ z ≤ 9223372036854775807) (w : World) (ra : Rw .u64 w va la) (rb : Rw .u64 w vb lb) :
    Calls Try.prog 4 #[va, vb, .int .i64 z] w fun e w' => e = .returned (.bool true) ∧ Bl w w' := by
  by_cases hf : la.length ≤ 30 ∧ lb.length ≤ 30
  · skip
    have FE := Lib.hid (fun W h1 h2 => few6_yes va vb la lb hf.1 hf.2 W h1 h2)
    have Na : Hid (Nu w va (val 18446744073709551616 la)) := Nu.mk ra ha (by omega)
    have sA := Lib.hid (Sz.of_val ha (k := 30) (by omega))
    have Qa := Lib.hid ra
    obtain ⟨A, eA⟩ : ∃ x, val 18446744073709551616 la = x := ⟨_, rfl⟩
    rw [eA] at Na sA
    have Nb : Hid (Nu w vb (val 18446744073709551616 lb)) := Nu.mk rb hb (by omega)
    have sB := Lib.hid (Sz.of_val hb (k := 30) (by omega))
    have Qb := Lib.hid rb
    obtain ⟨B, eB⟩ : ∃ x, val 18446744073709551616 lb = x := ⟨_, rfl⟩
    rw [eB] at Nb sB
    obtain ⟨G, eG⟩ : ∃ yy, Nat.gcd A B = yy := ⟨_, rfl⟩
    have sG : Hid (Sz 30 G) := by
      show Sz 30 G
      rcases Nat.eq_zero_or_pos A with h | h
      · have : G = B := by rw [← eG, h, Nat.gcd_zero_left]
        rw [this]; exact sB.out
      · exact sA.out.le (by rw [← eG]; exact Nat.gcd_le_left _ h)
    have D1 : Hid (∀ W v, Nu W v A → Calls Try.prog 17 #[v] W (RwEnd .i64 W (dig 65536 A))) := fun W v h0 => by
      have c := kDg h0
      exact c
    have K1 : Hid (∀ W v u, Nu W v A → Nu W u B → Calls Try.prog 21 #[v, u] W (RwEnd .u64 W (dig 18446744073709551616 G))) := fun W v u h0 h1 => by
      have c := pGcd W v u A B 30 h0 h1 sA.out sB.out (by decide)
      rw [eG] at c
      exact c
    have K2 : Hid (∀ W v u, Nu W v A → Nu W u B → Calls Try.prog 22 #[v, u] W (RwEnd .u64 W (dig 18446744073709551616 G))) := fun W v u h0 h1 => by
      have c := r6gcd_any W v u A B 30 h0 h1 sA.out sB.out (by decide)
      rw [eG] at c
      exact c
    have E1 := Lib.hid (kSame G (sG.out.sd (by decide)))
    have hbb : blen A ≤ 1920 := blen_sz (k := 30) sA.out
    obtain ⟨b, eb⟩ : ∃ yy, blen A = yy := ⟨_, rfl⟩
    have KB : Hid (∀ W v, De W v A → Calls Try.prog 20 #[v] W (fun e w => e = .returned (.int .i64 (b : Int)) ∧ W = w)) := fun W v h0 => by
      have c := kBits A (sA.out.sd (by decide)) W v h0
      rw [eb] at c
      exact c
    rw [eb] at hbb
    have bb : (b : Int) ≤ 1920 := by omega
    obtain ⟨na, hna⟩ : ∃ n, la.length = n := ⟨_, rfl⟩
    obtain ⟨Za, ka, eva⟩ := rw_shape ra hna
    subst eva
    have ib : (na : Int) ≤ 30 := by omega
    by_cases hz4 : z ≤ 40
    · have d1 : decide (40 < z) = false := decide_eq_false (by omega)
      by_cases hz0 : z < 0
      · skip
        have P1 : Hid (∀ W v, Nu W v A → Calls Try.prog 23 #[v, .int .i64 z] W (RwErr .u64 W [] 1)) := fun W v h0 => by
          have c := pPow_neg W v z hz0
          exact c
        have P2 : Hid (∀ W v, Nu W v A → Calls Try.prog 24 #[v, .int .i64 z] W (RwErr .u64 W [] 1)) := fun W v h0 => by
          have c := r6pow_neg W v z hz0
          exact c
        have E2 := Lib.hid kSame0
        clear ha hb ra rb hf eA eB eG hna hz4 hz hbb eb hz0
        go_enter Try.func4, Try.ntmps4
        go_wp2_with (first
          | (go_at_call 10; (with_reducible refine (shown6_any _).mono ?_); rintro e w1 ⟨rfl, hb'⟩; have G1 := Lib.hid hb'; clear hb')
          | (go_at_call 11; (with_reducible refine (FE.out _ (Qa.out.bl G1.out) (Qb.out.bl G1.out)).mono ?_); rintro e w' ⟨rfl, rfl⟩)
          | (go_at_call 17; (with_reducible refine (D1.out _ _ (Na.out.bl G1.out)).mono ?_); rintro e w2 ⟨d1, rfl, hr, hb'⟩; have G_1 := Lib.hid (hr); have G2 := Lib.hid hb'; clear hr hb')
          | (go_at_call 21; (with_reducible refine (K1.out _ _ _ (Na.out.bl (G1.out.trans G2.out)) (Nb.out.bl (G1.out.trans G2.out))).mono ?_); rintro e w3 ⟨g1, rfl, hr, hb'⟩; have R1 := Lib.hid (hr); have G3 := Lib.hid hb'; clear hr hb')
          | (go_at_call 22; (with_reducible refine (K2.out _ _ _ (Na.out.bl (G1.out.trans (G2.out.trans G3.out))) (Nb.out.bl (G1.out.trans (G2.out.trans G3.out)))).mono ?_); rintro e w4 ⟨g2, rfl, hr, hb'⟩; have R2 := Lib.hid (hr); have G4 := Lib.hid hb'; clear hr hb')
          | (go_at_call 15; (with_reducible refine (E1.out _ _ _ (R1.out.bl G4.out) R2.out).mono ?_); rintro e w5 ⟨rfl, hb'⟩; have G5 := Lib.hid hb'; clear hb')
          | (go_at_call 23; (with_reducible refine (P1.out _ _ (Na.out.bl (G1.out.trans (G2.out.trans (G3.out.trans (G4.out.trans G5.out)))))).mono ?_); rintro e w6 ⟨p, rfl, hr, hb'⟩; have R3 := Lib.hid (hr); have G6 := Lib.hid hb'; clear hr hb')
          | (go_at_call 24; (with_reducible refine (P2.out _ _ (Na.out.bl (G1.out.trans (G2.out.trans (G3.out.trans (G4.out.trans (G5.out.trans G6.out))))))).mono ?_); rintro e w7 ⟨q, rfl, hr, hb'⟩; have R4 := Lib.hid (hr); have G7 := Lib.hid hb'; clear hr hb')
          | (go_at_call 15; (with_reducible refine (E2.out _ _ _ (R3.out.bl G7.out) R4.out).mono ?_); rintro e w8 ⟨rfl, hb'⟩; have G8 := Lib.hid hb'; clear hb'))
        go_ret
        exact ⟨rfl, (G1.out.trans (G2.out.trans (G3.out.trans (G4.out.trans (G5.out.trans (G6.out.trans (G7.out.trans G8.out)))))))⟩
      · obtain ⟨n, rfl⟩ : ∃ n : Nat, z = (n : Int) := ⟨z.toNat, by omega⟩
        have d2 : decide (40 < n) = false := decide_eq_false (by omega)
        have hbl : blen A * n ≤ 262144 := by rw [eb]; exact Nat.le_trans (Nat.mul_le_mul hbb (show n ≤ 40 by omega)) (by decide)
        have nb : (n : Int) ≤ 40 := by omega
        have hps := pow_size hbl (Nat.le_refl n)
        have hpl := dig_len_of_lt 18446744073709551616 (by decide) _ _ hps
        obtain ⟨P, eP⟩ : ∃ yy, A ^ n = yy := ⟨_, rfl⟩
        rw [eP] at hpl
        have P1 : Hid (∀ W v, Nu W v A → Calls Try.prog 23 #[v, .int .i64 (n : Int)] W (RwErr .u64 W (dig 18446744073709551616 P) 0)) := fun W v h0 => by
          have c := pPow W v A n h0 (by omega) hbl
          rw [eP] at c
          exact c
        have P2 : Hid (∀ W v, Nu W v A → Calls Try.prog 24 #[v, .int .i64 (n : Int)] W (RwErr .u64 W (dig 18446744073709551616 P) 0)) := fun W v h0 => by
          have c := r6pow_any W v A n h0 (sA.out.sd (by decide)) (by omega) hbl
          rw [eP] at c
          exact c
        have E2 : Hid (∀ W v u, Rw .u64 W v (dig 18446744073709551616 P) → Rw .u64 W u (dig 18446744073709551616 P) → Calls Try.prog 15 #[v, u] W fun e w => e = .returned (.bool true) ∧ Bl W w) := fun W v u h h' => by
          have c := rsame_any v u _ _ (by omega) (by omega) W h h'
          rw [decide_eq_true rfl] at c
          exact c
        clear ha hb ra rb hf eA eB eG hna hz4 hz hz0 hbb eb hbl hps hpl eP
        go_enter Try.func4, Try.ntmps4
        go_wp2_with (first
          | (go_at_call 10; (with_reducible refine (shown6_any _).mono ?_); rintro e w1 ⟨rfl, hb'⟩; have G1 := Lib.hid hb'; clear hb')
          | (go_at_call 11; (with_reducible refine (FE.out _ (Qa.out.bl G1.out) (Qb.out.bl G1.out)).mono ?_); rintro e w' ⟨rfl, rfl⟩)
          | (go_at_call 17; (with_reducible refine (D1.out _ _ (Na.out.bl G1.out)).mono ?_); rintro e w2 ⟨d1, rfl, hr, hb'⟩; have G_1 := Lib.hid (hr); have G2 := Lib.hid hb'; clear hr hb')
          | (go_at_call 21; (with_reducible refine (K1.out _ _ _ (Na.out.bl (G1.out.trans G2.out)) (Nb.out.bl (G1.out.trans G2.out))).mono ?_); rintro e w3 ⟨g1, rfl, hr, hb'⟩; have R1 := Lib.hid (hr); have G3 := Lib.hid hb'; clear hr hb')
          | (go_at_call 22; (with_reducible refine (K2.out _ _ _ (Na.out.bl (G1.out.trans (G2.out.trans G3.out))) (Nb.out.bl (G1.out.trans (G2.out.trans G3.out)))).mono ?_); rintro e w4 ⟨g2, rfl, hr, hb'⟩; have R2 := Lib.hid (hr); have G4 := Lib.hid hb'; clear hr hb')
          | (go_at_call 15; (with_reducible refine (E1.out _ _ _ (R1.out.bl G4.out) R2.out).mono ?_); rintro e w5 ⟨rfl, hb'⟩; have G5 := Lib.hid hb'; clear hb')
          | (go_at_call 23; (with_reducible refine (P1.out _ _ (Na.out.bl (G1.out.trans (G2.out.trans (G3.out.trans (G4.out.trans G5.out)))))).mono ?_); rintro e w6 ⟨p, rfl, hr, hb'⟩; have R3 := Lib.hid (hr); have G6 := Lib.hid hb'; clear hr hb')
          | (go_at_call 24; (with_reducible refine (P2.out _ _ (Na.out.bl (G1.out.trans (G2.out.trans (G3.out.trans (G4.out.trans (G5.out.trans G6.out))))))).mono ?_); rintro e w7 ⟨q, rfl, hr, hb'⟩; have R4 := Lib.hid (hr); have G7 := Lib.hid hb'; clear hr hb')
          | (go_at_call 15; (with_reducible refine (E2.out _ _ _ (R3.out.bl G7.out) R4.out).mono ?_); rintro e w8 ⟨rfl, hb'⟩; have G8 := Lib.hid hb'; clear hb'))
        go_ret
        exact ⟨rfl, (G1.out.trans (G2.out.trans (G3.out.trans (G4.out.trans (G5.out.trans (G6.out.trans (G7.out.trans G8.out)))))))⟩
    · have d1 : decide (40 < z) = true := decide_eq_true (by omega)
      obtain ⟨n, rfl⟩ : ∃ n : Nat, z = (n : Int) := ⟨z.toNat, by omega⟩
      have d2 : decide (40 < n) = true := decide_eq_true (by omega)
      by_cases h0 : na = 0
      · subst h0
        
        clear ha hb ra rb hf eA eB eG hna hz4 hz hbb eb
        go_enter Try.func4, Try.ntmps4
        go_wp2_with (first
          | (go_at_call 10; (with_reducible refine (shown6_any _).mono ?_); rintro e w1 ⟨rfl, hb'⟩; have G1 := Lib.hid hb'; clear hb')
          | (go_at_call 11; (with_reducible refine (FE.out _ (Qa.out.bl G1.out) (Qb.out.bl G1.out)).mono ?_); rintro e w' ⟨rfl, rfl⟩))
        go_ret
        exact ⟨rfl, G1.out⟩
      · skip
        have n1 : decide ((na : Int) < 1) = false := decide_eq_false (by omega)
        have n2 : decide (na < 1) = false := decide_eq_false (by omega)
        have n3 : decide (na = 0) = false := decide_eq_false h0
        obtain ⟨b1, hb1⟩ : ∃ x, b + 1 = x := ⟨_, rfl⟩
        obtain ⟨q1, hq1⟩ : ∃ x, 262144 / b1 = x := ⟨_, rfl⟩
        have r1 : (b : Int) + 1 = (b1 : Int) := by omega
        have r2 : (262144 : Int) / (b1 : Int) = (q1 : Int) := by rw [← hq1]; exact (Int.natCast_ediv 262144 b1).symm
        have r3 : ¬ (b1 : Int) = 0 := by omega
        have bb1 : (b1 : Int) ≤ 1921 := by omega
        have r4 : ¬ b1 = 0 := by omega
        by_cases hq : n ≤ q1
        · skip
          have c1 : decide ((n : Int) ≤ (q1 : Int)) = true := decide_eq_true (by omega)
          have c2 : decide (n ≤ q1) = true := decide_eq_true hq
          clear ha hb ra rb hf eA eB eG hna hz4 hz hbb eb h0 hb1 hq1 hq
          go_enter Try.func4, Try.ntmps4
          go_wp2_with (first
            | (go_at_call 10; (with_reducible refine (shown6_any _).mono ?_); rintro e w1 ⟨rfl, hb'⟩; have G1 := Lib.hid hb'; clear hb')
            | (go_at_call 11; (with_reducible refine (FE.out _ (Qa.out.bl G1.out) (Qb.out.bl G1.out)).mono ?_); rintro e w' ⟨rfl, rfl⟩)
            | (go_at_call 17; (with_reducible refine (D1.out _ _ (Na.out.bl G1.out)).mono ?_); rintro e w2 ⟨d1, rfl, hr, hb'⟩; have G_1 := Lib.hid (hr); have G2 := Lib.hid hb'; clear hr hb')
            | (go_at_call 20; (with_reducible refine (KB.out _ _ G_1.out).mono ?_); rintro e w' ⟨rfl, rfl⟩))
          go_ret
          exact ⟨rfl, (G1.out.trans G2.out)⟩
        have c1 : decide ((n : Int) ≤ (q1 : Int)) = false := decide_eq_false (by omega)
        have c2 : decide (n ≤ q1) = false := decide_eq_false hq
        by_cases hb0 : b = 0
        · have f1 : ((b : Int) == 0) = true := by rw [beq_iff_eq]; omega
          
          clear ha hb ra rb hf eA eB eG hna hz4 hz hbb eb h0 hb1 hq1 hq hb0
          go_enter Try.func4, Try.ntmps4
          go_wp2_with (first
            | (go_at_call 10; (with_reducible refine (shown6_any _).mono ?_); rintro e w1 ⟨rfl, hb'⟩; have G1 := Lib.hid hb'; clear hb')
            | (go_at_call 11; (with_reducible refine (FE.out _ (Qa.out.bl G1.out) (Qb.out.bl G1.out)).mono ?_); rintro e w' ⟨rfl, rfl⟩)
            | (go_at_call 17; (with_reducible refine (D1.out _ _ (Na.out.bl G1.out)).mono ?_); rintro e w2 ⟨d1, rfl, hr, hb'⟩; have G_1 := Lib.hid (hr); have G2 := Lib.hid hb'; clear hr hb')
            | (go_at_call 20; (with_reducible refine (KB.out _ _ G_1.out).mono ?_); rintro e w' ⟨rfl, rfl⟩)
            | (go_at_call 21; (with_reducible refine (K1.out _ _ _ (Na.out.bl (G1.out.trans G2.out)) (Nb.out.bl (G1.out.trans G2.out))).mono ?_); rintro e w3 ⟨g1, rfl, hr, hb'⟩; have R1 := Lib.hid (hr); have G3 := Lib.hid hb'; clear hr hb')
            | (go_at_call 22; (with_reducible refine (K2.out _ _ _ (Na.out.bl (G1.out.trans (G2.out.trans G3.out))) (Nb.out.bl (G1.out.trans (G2.out.trans G3.out)))).mono ?_); rintro e w4 ⟨g2, rfl, hr, hb'⟩; have R2 := Lib.hid (hr); have G4 := Lib.hid hb'; clear hr hb')
            | (go_at_call 15; (with_reducible refine (E1.out _ _ _ (R1.out.bl G4.out) R2.out).mono ?_); rintro e w5 ⟨rfl, hb'⟩; have G5 := Lib.hid hb'; clear hb')
            | (go_at_call 20; (with_reducible refine (KB.out _ _ (G_1.out.bl (G3.out.trans (G4.out.trans G5.out)))).mono ?_); rintro e w' ⟨rfl, rfl⟩))
          go_ret
          exact ⟨rfl, (G1.out.trans (G2.out.trans (G3.out.trans (G4.out.trans G5.out))))⟩
        have f1 : ((b : Int) == 0) = false := by rw [beq_eq_false_iff_ne]; omega
        obtain ⟨q2, hq2⟩ : ∃ x, 262144 / b = x := ⟨_, rfl⟩
        have r5 : (262144 : Int) / (b : Int) = (q2 : Int) := by rw [← hq2]; exact (Int.natCast_ediv 262144 b).symm
        have r6 : ¬ (b : Int) = 0 := by omega
        have r7 : ¬ b = 0 := hb0
        by_cases hqq : n ≤ q2
        · skip
          have c3 : decide ((n : Int) ≤ (q2 : Int)) = true := decide_eq_true (by omega)
          have c4 : decide (n ≤ q2) = true := decide_eq_true hqq
          clear ha hb ra rb hf eA eB eG hna hz4 hz hbb eb h0 hb1 hq1 hq hb0 hq2 hqq
          go_enter Try.func4, Try.ntmps4
          go_wp2_with (first
            | (go_at_call 10; (with_reducible refine (shown6_any _).mono ?_); rintro e w1 ⟨rfl, hb'⟩; have G1 := Lib.hid hb'; clear hb')
            | (go_at_call 11; (with_reducible refine (FE.out _ (Qa.out.bl G1.out) (Qb.out.bl G1.out)).mono ?_); rintro e w' ⟨rfl, rfl⟩)
            | (go_at_call 17; (with_reducible refine (D1.out _ _ (Na.out.bl G1.out)).mono ?_); rintro e w2 ⟨d1, rfl, hr, hb'⟩; have G_1 := Lib.hid (hr); have G2 := Lib.hid hb'; clear hr hb')
            | (go_at_call 20; (with_reducible refine (KB.out _ _ G_1.out).mono ?_); rintro e w' ⟨rfl, rfl⟩)
            | (go_at_call 21; (with_reducible refine (K1.out _ _ _ (Na.out.bl (G1.out.trans G2.out)) (Nb.out.bl (G1.out.trans G2.out))).mono ?_); rintro e w3 ⟨g1, rfl, hr, hb'⟩; have R1 := Lib.hid (hr); have G3 := Lib.hid hb'; clear hr hb')
            | (go_at_call 22; (with_reducible refine (K2.out _ _ _ (Na.out.bl (G1.out.trans (G2.out.trans G3.out))) (Nb.out.bl (G1.out.trans (G2.out.trans G3.out)))).mono ?_); rintro e w4 ⟨g2, rfl, hr, hb'⟩; have R2 := Lib.hid (hr); have G4 := Lib.hid hb'; clear hr hb')
            | (go_at_call 15; (with_reducible refine (E1.out _ _ _ (R1.out.bl G4.out) R2.out).mono ?_); rintro e w5 ⟨rfl, hb'⟩; have G5 := Lib.hid hb'; clear hb')
            | (go_at_call 20; (with_reducible refine (KB.out _ _ (G_1.out.bl (G3.out.trans (G4.out.trans G5.out)))).mono ?_); rintro e w' ⟨rfl, rfl⟩)
            | (go_at_call 20; (with_reducible refine (KB.out _ _ (G_1.out.bl (G3.out.trans (G4.out.trans G5.out)))).mono ?_); rintro e w' ⟨rfl, rfl⟩))
          go_ret
          exact ⟨rfl, (G1.out.trans (G2.out.trans (G3.out.trans (G4.out.trans G5.out))))⟩
        have c3 : decide ((n : Int) ≤ (q2 : Int)) = false := decide_eq_false (by omega)
        have c4 : decide (n ≤ q2) = false := decide_eq_false hqq
        have hlong : 262144 < blen A * n := by
          rw [eb]
          have : q2 < n := by omega
          rw [← hq2, Nat.div_lt_iff_lt_mul (by omega), Nat.mul_comm] at this
          exact this
        have P1 : Hid (∀ W v, Nu W v A → Calls Try.prog 23 #[v, .int .i64 (n : Int)] W (RwErr .u64 W [] 4)) := fun W v h0 => by
          have c := pPow_long W v A n h0 (by omega) hlong
          exact c
        have P2 : Hid (∀ W v, Nu W v A → Calls Try.prog 24 #[v, .int .i64 (n : Int)] W (RwErr .u64 W [] 4)) := fun W v h0 => by
          have c := r6pow_long W v A n h0 (sA.out.sd (by decide)) (by omega) hlong
          exact c
        have E2 := Lib.hid kSame0
        clear ha hb ra rb hf eA eB eG hna hz4 hz hbb eb h0 hb1 hq1 hq hb0 hq2 hqq hlong
        go_enter Try.func4, Try.ntmps4
        go_wp2_with (first
          | (go_at_call 10; (with_reducible refine (shown6_any _).mono ?_); rintro e w1 ⟨rfl, hb'⟩; have G1 := Lib.hid hb'; clear hb')
          | (go_at_call 11; (with_reducible refine (FE.out _ (Qa.out.bl G1.out) (Qb.out.bl G1.out)).mono ?_); rintro e w' ⟨rfl, rfl⟩)
          | (go_at_call 17; (with_reducible refine (D1.out _ _ (Na.out.bl G1.out)).mono ?_); rintro e w2 ⟨d1, rfl, hr, hb'⟩; have G_1 := Lib.hid (hr); have G2 := Lib.hid hb'; clear hr hb')
          | (go_at_call 20; (with_reducible refine (KB.out _ _ G_1.out).mono ?_); rintro e w' ⟨rfl, rfl⟩)
          | (go_at_call 21; (with_reducible refine (K1.out _ _ _ (Na.out.bl (G1.out.trans G2.out)) (Nb.out.bl (G1.out.trans G2.out))).mono ?_); rintro e w3 ⟨g1, rfl, hr, hb'⟩; have R1 := Lib.hid (hr); have G3 := Lib.hid hb'; clear hr hb')
          | (go_at_call 22; (with_reducible refine (K2.out _ _ _ (Na.out.bl (G1.out.trans (G2.out.trans G3.out))) (Nb.out.bl (G1.out.trans (G2.out.trans G3.out)))).mono ?_); rintro e w4 ⟨g2, rfl, hr, hb'⟩; have R2 := Lib.hid (hr); have G4 := Lib.hid hb'; clear hr hb')
          | (go_at_call 15; (with_reducible refine (E1.out _ _ _ (R1.out.bl G4.out) R2.out).mono ?_); rintro e w5 ⟨rfl, hb'⟩; have G5 := Lib.hid hb'; clear hb')
          | (go_at_call 20; (with_reducible refine (KB.out _ _ (G_1.out.bl (G3.out.trans (G4.out.trans G5.out)))).mono ?_); rintro e w' ⟨rfl, rfl⟩)
          | (go_at_call 20; (with_reducible refine (KB.out _ _ (G_1.out.bl (G3.out.trans (G4.out.trans G5.out)))).mono ?_); rintro e w' ⟨rfl, rfl⟩)
          | (go_at_call 23; (with_reducible refine (P1.out _ _ (Na.out.bl (G1.out.trans (G2.out.trans (G3.out.trans (G4.out.trans G5.out)))))).mono ?_); rintro e w6 ⟨p, rfl, hr, hb'⟩; have R3 := Lib.hid (hr); have G6 := Lib.hid hb'; clear hr hb')
          | (go_at_call 24; (with_reducible refine (P2.out _ _ (Na.out.bl (G1.out.trans (G2.out.trans (G3.out.trans (G4.out.trans (G5.out.trans G6.out))))))).mono ?_); rintro e w7 ⟨q, rfl, hr, hb'⟩; have R4 := Lib.hid (hr); have G7 := Lib.hid hb'; clear hr hb')
          | (go_at_call 15; (with_reducible refine (E2.out _ _ _ (R3.out.bl G7.out) R4.out).mono ?_); rintro e w8 ⟨rfl, hb'⟩; have G8 := Lib.hid hb'; clear hb'))
        go_ret
        exact ⟨rfl, (G1.out.trans (G2.out.trans (G3.out.trans (G4.out.trans (G5.out.trans (G6.out.trans (G7.out.trans G8.out)))))))⟩
  · skip
    have FE := Lib.hid (fun W h1 h2 => few6_no va vb la lb hf (rw_len ra) (rw_len rb) W h1 h2)
    have Qa := Lib.hid ra
    have Qb := Lib.hid rb
    clear ha hb ra rb hf hz
    go_enter Try.func4, Try.ntmps4
    go_wp2_with (first
      | (go_at_call 10; (with_reducible refine (shown6_any _).mono ?_); rintro e w1 ⟨rfl, hb'⟩; have G1 := Lib.hid hb'; clear hb')
      | (go_at_call 11; (with_reducible refine (FE.out _ (Qa.out.bl G1.out) (Qb.out.bl G1.out)).mono ?_); rintro e w' ⟨rfl, rfl⟩))
    go_ret
    exact ⟨rfl, G1.out⟩
end Go.Proofs.Ytfmkbeffhdphfaa
