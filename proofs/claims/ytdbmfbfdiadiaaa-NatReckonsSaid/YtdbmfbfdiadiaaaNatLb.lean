/-
  The walks of the statements of layer 4: NatParts, NatBits.
-/
import Derived.Test.YtdbmfbfdiadiaaaNatS
namespace Go.Proofs.Ytdbmfbfdiadiaaa
open Go.RowKit
set_option linter.unusedVariables false

theorem blen_lt {x n : Nat} (h : x < 2 ^ n) : blen x ≤ n := by
  unfold blen
  split
  · omega
  · have := (Nat.log2_lt (by omega)).2 h
    omega
theorem blen_mod (x n r : Nat) (h : x % 2 ^ n = r) : blen r ≤ n := blen_lt (by rw [← h]; exact Nat.mod_lt _ (Nat.two_pow_pos n))
theorem blen_sz {k x : Nat} (h : Sz k x) : blen x ≤ 64 * k := by
  unfold Sz at h
  have e : (18446744073709551616 : Nat) = 2 ^ 64 := by decide
  rw [e, ← Nat.pow_mul] at h
  exact blen_lt h
theorem blen_shl_eq (x n : Nat) (h : 0 < x) : blen (x * 2 ^ n) = blen x + n := by
  have hp : 0 < x * 2 ^ n := Nat.mul_pos h (Nat.two_pow_pos n)
  unfold blen
  rw [if_neg (by omega), if_neg (by omega)]
  have h1 : 2 ^ (Nat.log2 x) ≤ x := (Nat.le_log2 (by omega)).1 (Nat.le_refl _)
  have h2 : x < 2 ^ (Nat.log2 x + 1) := (Nat.log2_lt (by omega)).1 (by omega)
  have e1 : Nat.log2 x + n ≤ Nat.log2 (x * 2 ^ n) := (Nat.le_log2 (by omega)).2 (by rw [Nat.pow_add]; exact Nat.mul_le_mul_right _ h1)
  have e2 : Nat.log2 (x * 2 ^ n) < Nat.log2 x + n + 1 := (Nat.log2_lt (by omega)).2 (by
    rw [show Nat.log2 x + n + 1 = Nat.log2 x + 1 + n from by omega, Nat.pow_add]
    exact Nat.mul_lt_mul_of_pos_right h2 (Nat.two_pow_pos n))
  omega
theorem blen_shl (x n : Nat) : blen (x * 2 ^ n) ≤ blen x + n := by
  rcases Nat.eq_zero_or_pos x with h | h
  · subst h; rw [Nat.zero_mul]; unfold blen; simp
  · rw [blen_shl_eq x n h]; omega
theorem row0 {k : IntKind} {w : World} {v : Value} (h : Rw k w v []) : ∃ A c, v = .slice A 0 c := by
  obtain ⟨A, c, hv, _⟩ := h
  exact ⟨A, c, hv⟩

set_option maxRecDepth 100000 in
set_option maxHeartbeats 2000000 in
theorem natParts_walk' (hAdd : CAdd) (hShr : CShr) (hShl : CShl) (hLow : CLow) (hCmp : CCmp) (hLen : CLen) (va : Value) (la : List Nat) (n : Int) (ha : All 18446744073709551616 la) (hn : -9223372036854775808 ≤ n ∧ n ≤ 9223372036854775807) (w : World) (ra : Rw .u64 w va la) :
    Calls Try.prog 7 #[va, .int .i64 n] w fun e w' => e = .returned (.bool true) ∧ Bl w w' := by
  by_cases hf : la.length ≤ 40 ∧ ([] : List Nat).length ≤ 40
  · have FE := Lib.hid (fun W h1 h2 => few_yes va (.slice none 0 0) la [] hf.1 hf.2 W h1 h2)
    by_cases h0 : n < 0
    · have Qa := Lib.hid ra
      clear ha hf ra hn
      go_enter Try.func7, Try.ntmps7
      go_wp2_with (first
        | (go_at_call 11; (with_reducible refine (shown4_any hAdd hShr _).mono ?_); rintro e w1 ⟨rfl, hb'⟩; have G1 := Lib.hid hb'; clear hb')
        | (go_at_call 12; (with_reducible refine (FE.out _ (Qa.out.bl G1.out) (Rw.nil _ _)).mono ?_); rintro e w' ⟨rfl, rfl⟩))
      go_ret
      exact ⟨rfl, G1.out⟩
    · by_cases h3 : 3000 < n
      · have Qa := Lib.hid ra
        clear ha hf ra hn
        go_enter Try.func7, Try.ntmps7
        go_wp2_with (first
          | (go_at_call 11; (with_reducible refine (shown4_any hAdd hShr _).mono ?_); rintro e w1 ⟨rfl, hb'⟩; have G1 := Lib.hid hb'; clear hb')
          | (go_at_call 12; (with_reducible refine (FE.out _ (Qa.out.bl G1.out) (Rw.nil _ _)).mono ?_); rintro e w' ⟨rfl, rfl⟩))
        go_ret
        exact ⟨rfl, G1.out⟩
      · obtain ⟨N, rfl⟩ : ∃ N : Nat, n = (N : Int) := ⟨n.toNat, by omega⟩
        have hN : N ≤ 3000 := by omega
        have Na : Hid (Nu w va (val 18446744073709551616 la)) := Nu.mk ra ha (by omega)
        have sa := Lib.hid (Sz.of_val ha (k := 40) (by omega))
        have Qa := Lib.hid ra
        obtain ⟨A, eA⟩ : ∃ x, val 18446744073709551616 la = x := ⟨_, rfl⟩
        rw [eA] at Na sa
        have tN : ((N : Int)).toNat = N := rfl
        obtain ⟨H, eH⟩ : ∃ H, A / 2 ^ N = H := ⟨_, rfl⟩
        obtain ⟨R, eR⟩ : ∃ R, A % 2 ^ N = R := ⟨_, rfl⟩
        obtain ⟨Z, eZ⟩ : ∃ Z, H * 2 ^ N = Z := ⟨_, rfl⟩
        obtain ⟨T, eT⟩ : ∃ T, A * 2 ^ N = T := ⟨_, rfl⟩
        have eA2 : Z + R = A := by rw [← eZ, ← eR, ← eH, Nat.mul_comm]; exact Nat.div_add_mod _ _
        have sH : Hid (Sz 40 H) := sa.out.le (by rw [← eH]; exact Nat.div_le_self _ _)
        have sZ : Hid (Sz 40 Z) := sa.out.le (by omega)
        have sR : Hid (Sz 40 R) := sa.out.le (by omega)
        have sT : Hid (Sz 88 T) := (by rw [← eT]; exact (sa.out.shl (j := 47) (by omega)).mono (by omega))
        have bR : blen R ≤ N := blen_mod A N R eR
        have bT : blen T ≤ blen A + N := by rw [← eT]; exact blen_shl A N
        have bA : blen A ≤ 2560 := blen_sz sa.out
        obtain ⟨p, ep⟩ : ∃ p, blen R = p := ⟨_, rfl⟩
        obtain ⟨q, eq⟩ : ∃ q, blen T = q := ⟨_, rfl⟩
        obtain ⟨u, eu⟩ : ∃ u, blen A = u := ⟨_, rfl⟩
        rw [ep] at bR
        rw [eq, eu] at bT
        rw [eu] at bA
        obtain ⟨s, es⟩ : ∃ s, u + N = s := ⟨_, rfl⟩
        have r1 : (u : Int) + (N : Int) = (s : Int) := by omega
        have d1 : decide (p ≤ N) = true := decide_eq_true bR
        have d2 : decide (q ≤ s) = true := decide_eq_true (by omega)
        have hNi : (N : Int) ≤ 3000 := by omega
        have hui : (u : Int) ≤ 2560 := by omega
        have K1 : Hid (∀ W v, Nu W v A → Calls Try.prog 29 #[v, .int .i64 (N : Int)] W (RwEnd .u64 W (dig 18446744073709551616 (H)))) := fun W v h1 => by
          have c := hShr W v _ (N : Int) h1 (by omega) (by omega)
          rw [tN, eH] at c
          exact c
        have K2 : Hid (∀ W v, Nu W v H → Calls Try.prog 31 #[v, .int .i64 (N : Int)] W (RwEnd .u64 W (dig 18446744073709551616 (Z)))) := fun W v h1 => by
          have c := hShl W v _ (N : Int) h1 (by omega) (by omega)
          rw [tN, eZ] at c
          exact c
        have K3 : Hid (∀ W v, Nu W v A → Calls Try.prog 30 #[v, .int .i64 (N : Int)] W (RwEnd .u64 W (dig 18446744073709551616 (R)))) := fun W v h1 => by
          have c := hLow W v _ (N : Int) h1 (by omega) (by omega)
          rw [tN, eR] at c
          exact c
        have K4 : Hid (∀ W v u, Nu W v Z → Nu W u R → Calls Try.prog 19 #[v, u] W (RwEnd .u64 W (dig 18446744073709551616 (A)))) := fun W v u h1 h2 => by
          have c := hAdd W v u _ _ h1 h2
          rw [eA2] at c
          exact c
        have K5 : Hid (∀ W v u, Nu W v A → Nu W u A → Calls Try.prog 23 #[v, u] W fun e w => e = .returned (.int .i64 (0)) ∧ Bl W w) := fun W v u h1 h2 => by
          have c := hCmp W v u _ _ h1 h2
          rw [cmpi_eq rfl] at c
          exact c
        have K6' : Hid (∀ W v, Nu W v R → Calls Try.prog 25 #[v] W fun e w => e = .returned (.int .i64 ((blen R : Nat) : Int)) ∧ Bl W w) := fun W v h1 => hLen W v _ h1
        have K7 : Hid (∀ W v, Nu W v A → Calls Try.prog 31 #[v, .int .i64 (N : Int)] W (RwEnd .u64 W (dig 18446744073709551616 (T)))) := fun W v h1 => by
          have c := hShl W v _ (N : Int) h1 (by omega) (by omega)
          rw [tN, eT] at c
          exact c
        have K8' : Hid (∀ W v, Nu W v T → Calls Try.prog 25 #[v] W fun e w => e = .returned (.int .i64 ((blen T : Nat) : Int)) ∧ Bl W w) := fun W v h1 => hLen W v _ h1
        have K9' : Hid (∀ W v, Nu W v A → Calls Try.prog 25 #[v] W fun e w => e = .returned (.int .i64 ((blen A : Nat) : Int)) ∧ Bl W w) := fun W v h1 => hLen W v _ h1
        have K6 := K6'
        have K8 := K8'
        have K9 := K9'
        rw [ep] at K6
        rw [eq] at K8
        rw [eu] at K9
        clear ha hf ra hn h0 h3 hN eA tN eH eR eZ eT eA2 bR bT bA ep eq eu es K6' K8' K9'
        go_enter Try.func7, Try.ntmps7
        go_wp2_with (first
          | (go_at_call 11; (with_reducible refine (shown4_any hAdd hShr _).mono ?_); rintro e w1 ⟨rfl, hb'⟩; have G1 := Lib.hid hb'; clear hb')
          | (go_at_call 12; (with_reducible refine (FE.out _ (Qa.out.bl G1.out) (Rw.nil _ _)).mono ?_); rintro e w' ⟨rfl, rfl⟩)
          | (go_at_call 29; (with_reducible refine (K1.out _ _ (Na.out.bl G1.out)).mono ?_); rintro e w2 ⟨v1, rfl, hr, hb'⟩; have N1 := Lib.hid (Nu.dig hr sH.out (by decide)); have G2 := Lib.hid hb'; clear hr hb')
          | (go_at_call 31; (with_reducible refine (K2.out _ _ N1.out).mono ?_); rintro e w3 ⟨v2, rfl, hr, hb'⟩; have N2 := Lib.hid (Nu.dig hr sZ.out (by decide)); have G3 := Lib.hid hb'; clear hr hb')
          | (go_at_call 30; (with_reducible refine (K3.out _ _ (Na.out.bl (G1.out.trans (G2.out.trans G3.out)))).mono ?_); rintro e w4 ⟨v3, rfl, hr, hb'⟩; have N3 := Lib.hid (Nu.dig hr sR.out (by decide)); have G4 := Lib.hid hb'; clear hr hb')
          | (go_at_call 19; (with_reducible refine (K4.out _ _ _ (N2.out.bl G4.out) N3.out).mono ?_); rintro e w5 ⟨v4, rfl, hr, hb'⟩; have N4 := Lib.hid (Nu.dig hr sa.out (by decide)); have G5 := Lib.hid hb'; clear hr hb')
          | (go_at_call 23; (with_reducible refine (K5.out _ _ _ N4.out (Na.out.bl (G1.out.trans (G2.out.trans (G3.out.trans (G4.out.trans G5.out)))))).mono ?_); rintro e w6 ⟨rfl, hb'⟩; have G6 := Lib.hid hb'; clear hb')
          | (go_at_call 25; (with_reducible refine (K6.out _ _ (N3.out.bl (G5.out.trans G6.out))).mono ?_); rintro e w7 ⟨rfl, hb'⟩; have G7 := Lib.hid hb'; clear hb')
          | (go_at_call 31; (with_reducible refine (K7.out _ _ (Na.out.bl (G1.out.trans (G2.out.trans (G3.out.trans (G4.out.trans (G5.out.trans (G6.out.trans G7.out)))))))).mono ?_); rintro e w8 ⟨v5, rfl, hr, hb'⟩; have N5 := Lib.hid (Nu.dig hr sT.out (by decide)); have G8 := Lib.hid hb'; clear hr hb')
          | (go_at_call 25; (with_reducible refine (K8.out _ _ N5.out).mono ?_); rintro e w9 ⟨rfl, hb'⟩; have G9 := Lib.hid hb'; clear hb')
          | (go_at_call 25; (with_reducible refine (K9.out _ _ (Na.out.bl (G1.out.trans (G2.out.trans (G3.out.trans (G4.out.trans (G5.out.trans (G6.out.trans (G7.out.trans (G8.out.trans G9.out)))))))))).mono ?_); rintro e w10 ⟨rfl, hb'⟩; have G10 := Lib.hid hb'; clear hb'))
        go_ret
        exact ⟨rfl, (G1.out.trans (G2.out.trans (G3.out.trans (G4.out.trans (G5.out.trans (G6.out.trans (G7.out.trans (G8.out.trans (G9.out.trans G10.out)))))))))⟩
  · skip
    have FE := Lib.hid (fun W h1 h2 => few_no va (.slice none 0 0) la [] hf (rw_len ra) (by simp) W h1 h2)
    have Qa := Lib.hid ra
    clear ha hf ra hn
    go_enter Try.func7, Try.ntmps7
    go_wp2_with (first
      | (go_at_call 11; (with_reducible refine (shown4_any hAdd hShr _).mono ?_); rintro e w1 ⟨rfl, hb'⟩; have G1 := Lib.hid hb'; clear hb')
      | (go_at_call 12; (with_reducible refine (FE.out _ (Qa.out.bl G1.out) (Rw.nil _ _)).mono ?_); rintro e w' ⟨rfl, rfl⟩))
    go_ret
    exact ⟨rfl, G1.out⟩

set_option maxRecDepth 100000 in
set_option maxHeartbeats 2000000 in
theorem natBits_walk' (hAdd : CAdd) (hShr : CShr) (hShl : CShl) (hLow : CLow) (hCmp : CCmp) (hLen : CLen) (va : Value) (la : List Nat) (n : Int) (ha : All 18446744073709551616 la) (hn : -9223372036854775808 ≤ n ∧ n ≤ 9223372036854775807) (w : World) (ra : Rw .u64 w va la) :
    Calls Try.prog 9 #[va, .int .i64 n] w fun e w' => e = .returned (.bool true) ∧ Bl w w' := by
  by_cases hf : la.length ≤ 40 ∧ ([] : List Nat).length ≤ 40
  · have FE := Lib.hid (fun W h1 h2 => few_yes va (.slice none 0 0) la [] hf.1 hf.2 W h1 h2)
    by_cases h0 : n < 0
    · have Qa := Lib.hid ra
      clear ha hf ra hn
      go_enter Try.func9, Try.ntmps9
      go_wp2_with (first
        | (go_at_call 11; (with_reducible refine (shown4_any hAdd hShr _).mono ?_); rintro e w1 ⟨rfl, hb'⟩; have G1 := Lib.hid hb'; clear hb')
        | (go_at_call 12; (with_reducible refine (FE.out _ (Qa.out.bl G1.out) (Rw.nil _ _)).mono ?_); rintro e w' ⟨rfl, rfl⟩))
      go_ret
      exact ⟨rfl, G1.out⟩
    · by_cases h3 : 3000 < n
      · have Qa := Lib.hid ra
        clear ha hf ra hn
        go_enter Try.func9, Try.ntmps9
        go_wp2_with (first
          | (go_at_call 11; (with_reducible refine (shown4_any hAdd hShr _).mono ?_); rintro e w1 ⟨rfl, hb'⟩; have G1 := Lib.hid hb'; clear hb')
          | (go_at_call 12; (with_reducible refine (FE.out _ (Qa.out.bl G1.out) (Rw.nil _ _)).mono ?_); rintro e w' ⟨rfl, rfl⟩))
        go_ret
        exact ⟨rfl, G1.out⟩
      · obtain ⟨N, rfl⟩ : ∃ N : Nat, n = (N : Int) := ⟨n.toNat, by omega⟩
        have hN : N ≤ 3000 := by omega
        have Na : Hid (Nu w va (val 18446744073709551616 la)) := Nu.mk ra ha (by omega)
        have sa := Lib.hid (Sz.of_val ha (k := 40) (by omega))
        have Qa := Lib.hid ra
        obtain ⟨A, eA⟩ : ∃ x, val 18446744073709551616 la = x := ⟨_, rfl⟩
        rw [eA] at Na sa
        have tN : ((N : Int)).toNat = N := rfl
        obtain ⟨T, eT⟩ : ∃ T, A * 2 ^ N = T := ⟨_, rfl⟩
        have eTd : T / 2 ^ N = A := by rw [← eT]; exact Nat.mul_div_cancel _ (Nat.two_pow_pos N)
        have eTm : T % 2 ^ N = 0 := by rw [← eT]; exact Nat.mul_mod_left _ _
        have sT : Hid (Sz 88 T) := (by rw [← eT]; exact (sa.out.shl (j := 47) (by omega)).mono (by omega))
        have bT : 0 < A → blen T = blen A + N := fun h => by rw [← eT]; exact blen_shl_eq A N h
        have bA : blen A ≤ 2560 := blen_sz sa.out
        have bp : 0 < A → 0 < blen A := fun h => by unfold blen; rw [if_neg (by omega)]; omega
        obtain ⟨q, eq⟩ : ∃ q, blen T = q := ⟨_, rfl⟩
        obtain ⟨u, eu⟩ : ∃ u, blen A = u := ⟨_, rfl⟩
        rw [eq, eu] at bT
        rw [eu] at bA bp
        have hNi : (N : Int) ≤ 3000 := by omega
        have hui : (u : Int) ≤ 2560 := by omega
        have K1 : Hid (∀ W v, Nu W v A → Calls Try.prog 31 #[v, .int .i64 (N : Int)] W (RwEnd .u64 W (dig 18446744073709551616 (T)))) := fun W v h1 => by
          have c := hShl W v _ (N : Int) h1 (by omega) (by omega)
          rw [tN, eT] at c
          exact c
        have K2 : Hid (∀ W v, Nu W v T → Calls Try.prog 29 #[v, .int .i64 (N : Int)] W (RwEnd .u64 W (dig 18446744073709551616 (A)))) := fun W v h1 => by
          have c := hShr W v _ (N : Int) h1 (by omega) (by omega)
          rw [tN, eTd] at c
          exact c
        have K3 : Hid (∀ W v u, Nu W v A → Nu W u A → Calls Try.prog 23 #[v, u] W fun e w => e = .returned (.int .i64 (0)) ∧ Bl W w) := fun W v u h1 h2 => by
          have c := hCmp W v u _ _ h1 h2
          rw [cmpi_eq rfl] at c
          exact c
        have K4' : Hid (∀ W v, Nu W v A → Calls Try.prog 25 #[v] W fun e w => e = .returned (.int .i64 ((blen A : Nat) : Int)) ∧ Bl W w) := fun W v h1 => hLen W v _ h1
        have K5' : Hid (∀ W v, Nu W v T → Calls Try.prog 25 #[v] W fun e w => e = .returned (.int .i64 ((blen T : Nat) : Int)) ∧ Bl W w) := fun W v h1 => hLen W v _ h1
        have K6 : Hid (∀ W v, Nu W v T → Calls Try.prog 30 #[v, .int .i64 (N : Int)] W (RwEnd .u64 W [])) := fun W v h1 => by
          have c := hLow W v _ (N : Int) h1 (by omega) (by omega)
          rw [tN, eTm, dig_zero] at c
          exact c
        have K4 := K4'
        have K5 := K5'
        rw [eu] at K4
        rw [eq] at K5
        by_cases hA0 : A = 0
        · skip
          have hu0 : u = 0 := by rw [← eu, hA0]; rfl
          have hT0 : T = 0 := by rw [← eT, hA0, Nat.zero_mul]
          have HT := Lib.hid (show dig 18446744073709551616 T = [] by rw [hT0, dig_zero])
          have hu1 : ((u : Int) == 0) = true := by rw [beq_iff_eq]; omega
          clear ha hf ra hn h0 h3 hN eA tN eT eTd eTm bT bA bp eq eu K4' K5' hA0 hT0 hu0
          go_enter Try.func9, Try.ntmps9
          go_wp2_with (first
            | (go_at_call 11; (with_reducible refine (shown4_any hAdd hShr _).mono ?_); rintro e w1 ⟨rfl, hb'⟩; have G1 := Lib.hid hb'; clear hb')
            | (go_at_call 12; (with_reducible refine (FE.out _ (Qa.out.bl G1.out) (Rw.nil _ _)).mono ?_); rintro e w' ⟨rfl, rfl⟩)
            | (go_at_call 31; (with_reducible refine (K1.out _ _ (Na.out.bl G1.out)).mono ?_); rintro e w2 ⟨v1, rfl, hr, hb'⟩; have N1 := Lib.hid (Nu.dig hr sT.out (by decide)); have R1 := Lib.hid ((HT.out ▸ hr)); have G2 := Lib.hid hb'; clear hr hb'; obtain ⟨A1, c1, hv1⟩ := row0 R1.out; subst hv1)
            | (go_at_call 29; (with_reducible refine (K2.out _ _ N1.out).mono ?_); rintro e w3 ⟨v2, rfl, hr, hb'⟩; have N2 := Lib.hid (Nu.dig hr sa.out (by decide)); have G3 := Lib.hid hb'; clear hr hb')
            | (go_at_call 23; (with_reducible refine (K3.out _ _ _ N2.out (Na.out.bl (G1.out.trans (G2.out.trans G3.out)))).mono ?_); rintro e w4 ⟨rfl, hb'⟩; have G4 := Lib.hid hb'; clear hb')
            | (go_at_call 25; (with_reducible refine (K4.out _ _ (Na.out.bl (G1.out.trans (G2.out.trans (G3.out.trans G4.out))))).mono ?_); rintro e w5 ⟨rfl, hb'⟩; have G5 := Lib.hid hb'; clear hb')
            | (go_at_call 30; (with_reducible refine (K6.out _ _ (N1.out.bl (G3.out.trans (G4.out.trans G5.out)))).mono ?_); rintro e w6 ⟨v6, rfl, hr, hb'⟩; have R6 := Lib.hid (hr); have G6 := Lib.hid hb'; clear hr hb'; obtain ⟨A6, c6, hv6⟩ := row0 R6.out; subst hv6))
          go_ret
          exact ⟨rfl, (G1.out.trans (G2.out.trans (G3.out.trans (G4.out.trans (G5.out.trans G6.out)))))⟩
        · skip
          have bT' := bT (by omega)
          have bp' := bp (by omega)
          have hu1 : ((u : Int) == 0) = false := by rw [beq_eq_false_iff_ne]; omega
          have r1 : (u : Int) + (N : Int) = (q : Int) := by omega
          clear ha hf ra hn h0 h3 hN eA tN eT eTd eTm bT bA bp eq eu K4' K5' hA0 bT'
          go_enter Try.func9, Try.ntmps9
          go_wp2_with (first
            | (go_at_call 11; (with_reducible refine (shown4_any hAdd hShr _).mono ?_); rintro e w1 ⟨rfl, hb'⟩; have G1 := Lib.hid hb'; clear hb')
            | (go_at_call 12; (with_reducible refine (FE.out _ (Qa.out.bl G1.out) (Rw.nil _ _)).mono ?_); rintro e w' ⟨rfl, rfl⟩)
            | (go_at_call 31; (with_reducible refine (K1.out _ _ (Na.out.bl G1.out)).mono ?_); rintro e w2 ⟨v1, rfl, hr, hb'⟩; have N1 := Lib.hid (Nu.dig hr sT.out (by decide)); have G2 := Lib.hid hb'; clear hr hb')
            | (go_at_call 29; (with_reducible refine (K2.out _ _ N1.out).mono ?_); rintro e w3 ⟨v2, rfl, hr, hb'⟩; have N2 := Lib.hid (Nu.dig hr sa.out (by decide)); have G3 := Lib.hid hb'; clear hr hb')
            | (go_at_call 23; (with_reducible refine (K3.out _ _ _ N2.out (Na.out.bl (G1.out.trans (G2.out.trans G3.out)))).mono ?_); rintro e w4 ⟨rfl, hb'⟩; have G4 := Lib.hid hb'; clear hb')
            | (go_at_call 25; (with_reducible refine (K4.out _ _ (Na.out.bl (G1.out.trans (G2.out.trans (G3.out.trans G4.out))))).mono ?_); rintro e w5 ⟨rfl, hb'⟩; have G5 := Lib.hid hb'; clear hb')
            | (go_at_call 25; (with_reducible refine (K4.out _ _ (Na.out.bl (G1.out.trans (G2.out.trans (G3.out.trans (G4.out.trans G5.out)))))).mono ?_); rintro e w6 ⟨rfl, hb'⟩; have G6 := Lib.hid hb'; clear hb')
            | (go_at_call 25; (with_reducible refine (K5.out _ _ (N1.out.bl (G3.out.trans (G4.out.trans (G5.out.trans G6.out))))).mono ?_); rintro e w7 ⟨rfl, hb'⟩; have G7 := Lib.hid hb'; clear hb')
            | (go_at_call 25; (with_reducible refine (K4.out _ _ (Na.out.bl (G1.out.trans (G2.out.trans (G3.out.trans (G4.out.trans (G5.out.trans (G6.out.trans G7.out)))))))).mono ?_); rintro e w8 ⟨rfl, hb'⟩; have G8 := Lib.hid hb'; clear hb')
            | (go_at_call 30; (with_reducible refine (K6.out _ _ (N1.out.bl (G3.out.trans (G4.out.trans (G5.out.trans (G6.out.trans (G7.out.trans G8.out))))))).mono ?_); rintro e w9 ⟨v6, rfl, hr, hb'⟩; have R6 := Lib.hid (hr); have G9 := Lib.hid hb'; clear hr hb'; obtain ⟨A6, c6, hv6⟩ := row0 R6.out; subst hv6))
          go_ret
          exact ⟨rfl, (G1.out.trans (G2.out.trans (G3.out.trans (G4.out.trans (G5.out.trans (G6.out.trans (G7.out.trans (G8.out.trans G9.out))))))))⟩
  · skip
    have FE := Lib.hid (fun W h1 h2 => few_no va (.slice none 0 0) la [] hf (rw_len ra) (by simp) W h1 h2)
    have Qa := Lib.hid ra
    clear ha hf ra hn
    go_enter Try.func9, Try.ntmps9
    go_wp2_with (first
      | (go_at_call 11; (with_reducible refine (shown4_any hAdd hShr _).mono ?_); rintro e w1 ⟨rfl, hb'⟩; have G1 := Lib.hid hb'; clear hb')
      | (go_at_call 12; (with_reducible refine (FE.out _ (Qa.out.bl G1.out) (Rw.nil _ _)).mono ?_); rintro e w' ⟨rfl, rfl⟩))
    go_ret
    exact ⟨rfl, G1.out⟩
end Go.Proofs.Ytdbmfbfdiadiaaa
