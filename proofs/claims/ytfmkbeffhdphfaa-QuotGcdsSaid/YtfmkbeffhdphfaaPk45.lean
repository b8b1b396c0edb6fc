/-
  The walk of QuotGcds.
-/
import Derived.Test.YtfmkbeffhdphfaaPk31
import Derived.Test.YtfmkbeffhdphfaaPk41
namespace Go.Proofs.Ytfmkbeffhdphfaa
open Go.RowKit
set_option linter.unusedVariables false
set_option linter.unusedSimpArgs false

set_option maxRecDepth 100000 in
set_option maxHeartbeats 8000000 in
theorem quotGcds_walk (va : Value) (la : List Nat) (vb : Value) (lb : List Nat) (ha : All 18446744073709551616 la) (hb : All 18446744073709551616 lb) (w : World) (ra : Rw .u64 w va la) (rb : Rw .u64 w vb lb) :
    Calls Try.prog 7 #[va, vb] w fun e w' => e = .returned (.bool true) ∧ Bl w w' := by
  obtain ⟨na, hna⟩ : ∃ n, la.length = n := ⟨_, rfl⟩
  have hla := rw_len ra
  obtain ⟨Za, ka, eva⟩ := rw_shape ra hna
  subst eva
  rw [hna] at hla
  have iba : (na : Int) ≤ 9223372036854775807 := by omega
  obtain ⟨nb, hnb⟩ : ∃ n, lb.length = n := ⟨_, rfl⟩
  have hlb := rw_len rb
  obtain ⟨Zb, kb, evb⟩ := rw_shape rb hnb
  subst evb
  rw [hnb] at hlb
  have ibb : (nb : Int) ≤ 9223372036854775807 := by omega
  by_cases hfa : 8 < na
  · skip
    have d1 : decide ((8 : Int) < (na : Int)) = true := decide_eq_true (by omega)
    have d2 : decide (8 < na) = true := decide_eq_true hfa
    clear ha hb ra rb hna hnb hla hlb hfa
    go_enter Try.func7, Try.ntmps7
    go_wp2_with (first
      | (go_at_call 10; (with_reducible refine (shown6_any _).mono ?_); rintro e w1 ⟨rfl, hb'⟩; have G1 := Lib.hid hb'; clear hb'))
    go_ret
    exact ⟨rfl, G1.out⟩
  by_cases hfb : 8 < nb
  · skip
    have d1 : decide ((8 : Int) < (na : Int)) = false := decide_eq_false (by omega)
    have d2 : decide (8 < na) = false := decide_eq_false hfa
    have d3 : decide ((8 : Int) < (nb : Int)) = true := decide_eq_true (by omega)
    have d4 : decide (8 < nb) = true := decide_eq_true hfb
    clear ha hb ra rb hna hnb hla hlb hfa hfb
    go_enter Try.func7, Try.ntmps7
    go_wp2_with (first
      | (go_at_call 10; (with_reducible refine (shown6_any _).mono ?_); rintro e w1 ⟨rfl, hb'⟩; have G1 := Lib.hid hb'; clear hb'))
    go_ret
    exact ⟨rfl, G1.out⟩
  have d1 : decide ((8 : Int) < (na : Int)) = false := decide_eq_false (by omega)
  have d2 : decide (8 < na) = false := decide_eq_false hfa
  have d3 : decide ((8 : Int) < (nb : Int)) = false := decide_eq_false (by omega)
  have d4 : decide (8 < nb) = false := decide_eq_false hfb
  have Na : Hid (Nu w (.slice Za na ka) (val 18446744073709551616 la)) := Nu.mk ra ha (by omega)
  have sA := Lib.hid (Sz.of_val ha (k := 8) (by omega))
  obtain ⟨A, eA⟩ : ∃ x, val 18446744073709551616 la = x := ⟨_, rfl⟩
  rw [eA] at Na sA
  have Nb : Hid (Nu w (.slice Zb nb kb) (val 18446744073709551616 lb)) := Nu.mk rb hb (by omega)
  have sB := Lib.hid (Sz.of_val hb (k := 8) (by omega))
  obtain ⟨B, eB⟩ : ∃ x, val 18446744073709551616 lb = x := ⟨_, rfl⟩
  rw [eB] at Nb sB
  by_cases hG : Nat.gcd A B = 0
  · obtain rfl : A = 0 := Nat.eq_zero_of_gcd_eq_zero_left hG
    obtain rfl : B = 0 := Nat.eq_zero_of_gcd_eq_zero_right hG
    have K1 : Hid (∀ W v u, Nu W v 0 → Nu W u 0 → Calls Try.prog 21 #[v, u] W (RwEnd .u64 W (dig 18446744073709551616 0))) := fun W v u h0 h1 => by
      have c := pGcd W v u 0 0 8 h0 h1 sA.out sB.out (by decide)
      rw [hG] at c
      exact c
    have D1 : Hid (∀ W v, Nu W v 0 → Calls Try.prog 17 #[v] W (RwEnd .i64 W (dig 65536 0))) := fun W v h0 => by
      have c := kDg h0
      exact c
    have L0 : Hid ((dig 18446744073709551616 0).length = 0) := rfl
    have L1 : Hid ((dig 65536 0).length = 0) := rfl
    clear ha hb ra rb hna hnb hla hlb hfa hfb eA eB hG
    go_enter Try.func7, Try.ntmps7
    go_wp2_with (first
      | (go_at_call 10; (with_reducible refine (shown6_any _).mono ?_); rintro e w1 ⟨rfl, hb'⟩; have G1 := Lib.hid hb'; clear hb')
      | (go_at_call 21; (with_reducible refine (K1.out _ _ _ (Na.out.bl G1.out) (Nb.out.bl G1.out)).mono ?_); rintro e w2 ⟨g, rfl, hr, hb'⟩; have Rg := Lib.hid (hr); have G2 := Lib.hid hb'; clear hr hb'; obtain ⟨A_1, k_1, e_1⟩ := rw_shape Rg.out L0.out; subst e_1)
      | (go_at_call 17; (with_reducible refine (D1.out _ _ (Na.out.bl (G1.out.trans G2.out))).mono ?_); rintro e w3 ⟨d1, rfl, hr, hb'⟩; have G_1 := Lib.hid (hr); have G3 := Lib.hid hb'; clear hr hb'; obtain ⟨A_2, k_2, e_2⟩ := rw_shape G_1.out L1.out; subst e_2)
      | (go_at_call 17; (with_reducible refine (D1.out _ _ (Nb.out.bl (G1.out.trans (G2.out.trans G3.out)))).mono ?_); rintro e w4 ⟨d2, rfl, hr, hb'⟩; have G_2 := Lib.hid (hr); have G4 := Lib.hid hb'; clear hr hb'; obtain ⟨A_3, k_3, e_3⟩ := rw_shape G_2.out L1.out; subst e_3))
    go_ret
    exact ⟨rfl, (G1.out.trans (G2.out.trans (G3.out.trans G4.out)))⟩
  · obtain ⟨G, eG⟩ : ∃ yy, Nat.gcd A B = yy := ⟨_, rfl⟩
    have hpG : 0 < G := by rw [← eG]; exact Nat.pos_of_ne_zero hG
    have sG : Hid (Sz 8 G) := by
      show Sz 8 G
      rcases Nat.eq_zero_or_pos A with h | h
      · have : G = B := by rw [← eG, h, Nat.gcd_zero_left]
        rw [this]; exact sB.out
      · exact sA.out.le (by rw [← eG]; exact Nat.gcd_le_left _ h)
    obtain ⟨X, eX⟩ : ∃ yy, A / G = yy := ⟨_, rfl⟩
    have sX : Hid (Sz 8 X) := (by rw [← eX]; exact sA.out.le (Nat.div_le_self _ _))
    obtain ⟨Y, eY⟩ : ∃ yy, B / G = yy := ⟨_, rfl⟩
    have sY : Hid (Sz 8 Y) := (by rw [← eY]; exact sB.out.le (Nat.div_le_self _ _))
    have mX : A % G = 0 := by rw [← eG]; exact Nat.mod_eq_zero_of_dvd (Nat.gcd_dvd_left A B)
    have mY : B % G = 0 := by rw [← eG]; exact Nat.mod_eq_zero_of_dvd (Nat.gcd_dvd_right A B)
    have hXY : Nat.gcd X Y = 1 := by rw [← eX, ← eY, ← eG, Nat.gcd_div (Nat.gcd_dvd_left A B) (Nat.gcd_dvd_right A B), Nat.div_self (Nat.pos_of_ne_zero hG)]
    have hgl := dig_len_pos 18446744073709551616 (by decide) G hpG
    have hgl2 := dig_len_of_lt 18446744073709551616 (by decide) G 8 sG.out
    obtain ⟨n, en⟩ : ∃ n, (dig 18446744073709551616 G).length = n := ⟨_, rfl⟩
    have LN := Lib.hid en
    have n0 : ((n : Int) == 0) = false := by rw [beq_eq_false_iff_ne]; omega
    have L0 : Hid ((dig 18446744073709551616 0).length = 0) := rfl
    have e1 : dig 18446744073709551616 1 = [1] := by decide +kernel
    have E1 := Lib.hid e1
    have K1 : Hid (∀ W v u, Nu W v A → Nu W u B → Calls Try.prog 21 #[v, u] W (RwEnd .u64 W (dig 18446744073709551616 G))) := fun W v u h0 h1 => by
      have c := pGcd W v u A B 8 h0 h1 sA.out sB.out (by decide)
      rw [eG] at c
      exact c
    have K2 : Hid (∀ W v u, Nu W v A → Nu W u G → Calls Try.prog 13 #[v, u] W (RwEnd3 W (dig 18446744073709551616 X) (dig 18446744073709551616 0) 0)) := fun W v u h0 h1 => by
      have c := r6div_any W v u A G h0 h1 (sA.out.sd (by decide)) (sG.out.sd (by decide)) hpG
      rw [eX, mX] at c
      exact c
    have K3 : Hid (∀ W v u, Nu W v B → Nu W u G → Calls Try.prog 13 #[v, u] W (RwEnd3 W (dig 18446744073709551616 Y) (dig 18446744073709551616 0) 0)) := fun W v u h0 h1 => by
      have c := r6div_any W v u B G h0 h1 (sB.out.sd (by decide)) (sG.out.sd (by decide)) hpG
      rw [eY, mY] at c
      exact c
    have K4 : Hid (∀ W v u, Nu W v X → Nu W u Y → Calls Try.prog 21 #[v, u] W (RwEnd .u64 W (dig 18446744073709551616 1))) := fun W v u h0 h1 => by
      have c := pGcd W v u X Y 8 h0 h1 sX.out sY.out (by decide)
      rw [hXY] at c
      exact c
    clear ha hb ra rb hna hnb hla hlb hfa hfb eA eB eX eY mX mY hXY hgl hgl2 en e1 hpG hG eG
    go_enter Try.func7, Try.ntmps7
    go_wp2_with (first
      | (go_at_call 10; (with_reducible refine (shown6_any _).mono ?_); rintro e w1 ⟨rfl, hb'⟩; have G1 := Lib.hid hb'; clear hb')
      | (go_at_call 21; (with_reducible refine (K1.out _ _ _ (Na.out.bl G1.out) (Nb.out.bl G1.out)).mono ?_); rintro e w2 ⟨g, rfl, hr, hb'⟩; have Rg := Lib.hid (hr); have Ng := Lib.hid (Nu.dig hr sG.out (by decide)); have G2 := Lib.hid hb'; clear hr hb'; obtain ⟨A_1, k_1, e_1⟩ := rw_shape Rg.out LN.out; subst e_1)
      | (go_at_call 13; (with_reducible refine (K2.out _ _ _ (Na.out.bl (G1.out.trans G2.out)) Ng.out).mono ?_); rintro e w3 ⟨x1, r1, rfl, hr, hs, hb'⟩; have Nx := Lib.hid (Nu.dig hr sX.out (by decide)); have Rr := Lib.hid (hs); have G3 := Lib.hid hb'; clear hr hs hb'; obtain ⟨A_2, k_2, e_2⟩ := rw_shape Rr.out L0.out; subst e_2)
      | (go_at_call 13; (with_reducible refine (K3.out _ _ _ (Nb.out.bl (G1.out.trans (G2.out.trans G3.out))) (Ng.out.bl G3.out)).mono ?_); rintro e w4 ⟨y1, s1, rfl, hr, hs, hb'⟩; have Ny := Lib.hid (Nu.dig hr sY.out (by decide)); have Rs := Lib.hid (hs); have G4 := Lib.hid hb'; clear hr hs hb'; obtain ⟨A_3, k_3, e_3⟩ := rw_shape Rs.out L0.out; subst e_3)
      | (go_at_call 21; (with_reducible refine (K4.out _ _ _ (Nx.out.bl G4.out) Ny.out).mono ?_); rintro e w5 ⟨one, rfl, hr, hb'⟩; have Ro := Lib.hid (hr); have G5 := Lib.hid hb'; clear hr hb'; have ro := Ro.out; rw [E1.out] at ro; obtain ⟨a1, c1, hv1, hk1, x0⟩ := row1 ro; subst hv1; rw [Addr.add_zero'] at x0; clear ro))
    go_ret
    exact ⟨rfl, (G1.out.trans (G2.out.trans (G3.out.trans (G4.out.trans G5.out))))⟩
end Go.Proofs.Ytfmkbeffhdphfaa
