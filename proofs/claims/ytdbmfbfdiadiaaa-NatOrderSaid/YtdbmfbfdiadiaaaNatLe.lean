/-
  The walks of the statements of layer 4: NatOrder.
-/
import Derived.Test.YtdbmfbfdiadiaaaNatR
namespace Go.Proofs.Ytdbmfbfdiadiaaa
open Go.RowKit
set_option linter.unusedVariables false

set_option maxRecDepth 100000 in
set_option maxHeartbeats 4000000 in
theorem natOrder_walk' (hAdd : CAdd) (hShr : CShr) (hShl : CShl) (hLow : CLow) (hSub : CSub) (hNorm : CNorm) (hScale : CScale) (va : Value) (la : List Nat) (vb : Value) (lb : List Nat) (n : Int) (y : Nat) (ha : All 18446744073709551616 la) (hb : All 18446744073709551616 lb) (hn : -9223372036854775808 ≤ n ∧ n ≤ 9223372036854775807) (hy : y < 18446744073709551616) (w : World) (ra : Rw .u64 w va la) (rb : Rw .u64 w vb lb) :
    Calls Try.prog 5 #[.agg #[va, vb, .int .i64 n, .int .u64 (y : Int)]] w fun e w' => e = .returned (.bool true) ∧ Bl w w' := by
  by_cases hf : la.length ≤ 40 ∧ lb.length ≤ 40
  · have FE := Lib.hid (fun W h1 h2 => few_yes va vb la lb hf.1 hf.2 W h1 h2)
    by_cases h3 : 3000 < n
    · have Qa := Lib.hid ra
      have Qb := Lib.hid rb
      clear ha hb hf ra rb hn hy
      go_enter Try.func5, Try.ntmps5
      go_wp2_with (first
        | (go_at_call 11; (with_reducible refine (shown4_any hAdd hShr _).mono ?_); rintro e w1 ⟨rfl, hb'⟩; have G1 := Lib.hid (((Bl.refl _).alloc _).trans hb'); clear hb')
        | (go_at_call 12; (with_reducible refine (FE.out _ (Qa.out.bl G1.out) (Qb.out.bl G1.out)).mono ?_); rintro e w' ⟨rfl, rfl⟩))
      go_ret
      exact ⟨rfl, G1.out⟩
    · obtain ⟨N, eN⟩ : ∃ N : Nat, n.toNat = N := ⟨_, rfl⟩
      have hN : N ≤ 3000 := by omega
      have Na : Hid (Nu w va (val 18446744073709551616 la)) := Nu.mk ra ha (by omega)
      have sa := Lib.hid (Sz.of_val ha (k := 40) (by omega))
      have Qa := Lib.hid ra
      obtain ⟨A, eA⟩ : ∃ x, val 18446744073709551616 la = x := ⟨_, rfl⟩
      rw [eA] at Na sa
      have Nb : Hid (Nu w vb (val 18446744073709551616 lb)) := Nu.mk rb hb (by omega)
      have sb := Lib.hid (Sz.of_val hb (k := 40) (by omega))
      have Qb := Lib.hid rb
      obtain ⟨B, eB⟩ : ∃ x, val 18446744073709551616 lb = x := ⟨_, rfl⟩
      rw [eB] at Nb sb
      obtain ⟨P, eP⟩ : ∃ P, 2 ^ N = P := ⟨_, rfl⟩
      obtain ⟨H, eH⟩ : ∃ H, A / P = H := ⟨_, rfl⟩
      obtain ⟨R, eR⟩ : ∃ R, A % P = R := ⟨_, rfl⟩
      obtain ⟨T, eT⟩ : ∃ T, A * P = T := ⟨_, rfl⟩
      obtain ⟨S, eS⟩ : ∃ S, A + B = S := ⟨_, rfl⟩
      obtain ⟨Y, eY⟩ : ∃ Y, A * y = Y := ⟨_, rfl⟩
      have sH : Hid (Sz 40 H) := sa.out.le (by rw [← eH]; exact Nat.div_le_self _ _)
      have sR : Hid (Sz 40 R) := sa.out.le (by rw [← eR]; exact Nat.mod_le _ _)
      have sT : Hid (Sz 88 T) := (by rw [← eT, ← eP]; exact (sa.out.shl (j := 47) (by omega)).mono (by omega))
      have sS : Hid (Sz 41 S) := (by rw [← eS]; exact sa.out.add sb.out)
      have sY : Hid (Sz 41 Y) := (by rw [← eY]; exact sa.out.word hy)
      have K1 : Hid (∀ W v, Nu W v A → Calls Try.prog 29 #[v, .int .i64 n] W (RwEnd .u64 W (dig 18446744073709551616 (H)))) := fun W v h1 => by
        have c := hShr W v _ n h1 (by omega) (by omega)
        rw [eN, eP, eH] at c
        exact c
      have K2 : Hid (∀ W v, Nu W v A → Calls Try.prog 30 #[v, .int .i64 n] W (RwEnd .u64 W (dig 18446744073709551616 (R)))) := fun W v h1 => by
        have c := hLow W v _ n h1 (by omega) (by omega)
        rw [eN, eP, eR] at c
        exact c
      have K3 : Hid (∀ W v, Nu W v A → Calls Try.prog 31 #[v, .int .i64 n] W (RwEnd .u64 W (dig 18446744073709551616 (T)))) := fun W v h1 => by
        have c := hShl W v _ n h1 (by omega) (by omega)
        rw [eN, eP, eT] at c
        exact c
      have K4 : Hid (∀ W v u, Nu W v A → Nu W u B → Calls Try.prog 19 #[v, u] W (RwEnd .u64 W (dig 18446744073709551616 (S)))) := fun W v u h1 h2 => by
        have c := hAdd W v u _ _ h1 h2
        rw [eS] at c
        exact c
      have K5 : Hid (∀ W v, Nu W v A → Calls Try.prog 21 #[v, .int .u64 (y : Int)] W (RwEnd .u64 W (dig 18446744073709551616 Y))) := fun W v h1 => by
        have c := hScale W v A y h1 hy
        rw [eY] at c
        exact c
      have K6 : Hid (∀ W v, Nu W v A → Calls Try.prog 17 #[v] W (RwEnd .u64 W (dig 18446744073709551616 A))) := fun W v h1 => hNorm W v A h1
      have OA : Hid (∀ W v, Rw .u64 W v (dig 18446744073709551616 A) → Calls Try.prog 32 #[v] W fun e w => e = .returned (.bool true) ∧ Bl W w) := fun W v h => ordered_any v A (Nat.lt_of_le_of_lt (sa.out.sd (by decide)).lenw (by decide)) W h
      have OS : Hid (∀ W v, Rw .u64 W v (dig 18446744073709551616 S) → Calls Try.prog 32 #[v] W fun e w => e = .returned (.bool true) ∧ Bl W w) := fun W v h => ordered_any v S (Nat.lt_of_le_of_lt (sS.out.sd (by decide)).lenw (by decide)) W h
      have OT : Hid (∀ W v, Rw .u64 W v (dig 18446744073709551616 T) → Calls Try.prog 32 #[v] W fun e w => e = .returned (.bool true) ∧ Bl W w) := fun W v h => ordered_any v T (Nat.lt_of_le_of_lt (sT.out.sd (by decide)).lenw (by decide)) W h
      have OH : Hid (∀ W v, Rw .u64 W v (dig 18446744073709551616 H) → Calls Try.prog 32 #[v] W fun e w => e = .returned (.bool true) ∧ Bl W w) := fun W v h => ordered_any v H (Nat.lt_of_le_of_lt (sH.out.sd (by decide)).lenw (by decide)) W h
      have OR : Hid (∀ W v, Rw .u64 W v (dig 18446744073709551616 R) → Calls Try.prog 32 #[v] W fun e w => e = .returned (.bool true) ∧ Bl W w) := fun W v h => ordered_any v R (Nat.lt_of_le_of_lt (sR.out.sd (by decide)).lenw (by decide)) W h
      have OY : Hid (∀ W v, Rw .u64 W v (dig 18446744073709551616 Y) → Calls Try.prog 32 #[v] W fun e w => e = .returned (.bool true) ∧ Bl W w) := fun W v h => ordered_any v Y (Nat.lt_of_le_of_lt (sY.out.sd (by decide)).lenw (by decide)) W h
      by_cases hlt : A < B
      · skip
        have K7 : Hid (∀ W v u, Nu W v A → Nu W u B → Calls Try.prog 14 #[v, u] W (RwErr .u64 W [] 3)) := fun W v u h1 h2 => by
          have c := hSub W v u _ _ h1 h2
          rw [if_pos hlt] at c
          exact c
        have OD : Hid (∀ W v, Rw .u64 W v [] → Calls Try.prog 32 #[v] W fun e w => e = .returned (.bool true) ∧ Bl W w) := fun W v h => ordered_any v 0 (by rw [dig_zero]; decide) W h
        clear ha hb ra rb eA eB hf hlt eN eP eH eR eT eS eY hy hn hN
        go_enter Try.func5, Try.ntmps5
        go_wp2_with (first
          | (go_at_call 11; (with_reducible refine (shown4_any hAdd hShr _).mono ?_); rintro e w1 ⟨rfl, hb'⟩; have G1 := Lib.hid (((Bl.refl _).alloc _).trans hb'); clear hb')
          | (go_at_call 12; (with_reducible refine (FE.out _ (Qa.out.bl G1.out) (Qb.out.bl G1.out)).mono ?_); rintro e w' ⟨rfl, rfl⟩)
          | (go_at_call 14; (with_reducible refine (K7.out _ _ _ (Na.out.bl G1.out) (Nb.out.bl G1.out)).mono ?_); rintro e w2 ⟨v1, rfl, hr, hb'⟩; have R1 := Lib.hid (hr); have G2 := Lib.hid hb'; clear hr hb')
          | (go_at_call 17; (with_reducible refine (K6.out _ _ (Na.out.bl (G1.out.trans G2.out))).mono ?_); rintro e w3 ⟨v2, rfl, hr, hb'⟩; have R2 := Lib.hid (hr); have G3 := Lib.hid hb'; clear hr hb')
          | (go_at_call 32; (with_reducible refine (OA.out _ _ R2.out).mono ?_); rintro e w4 ⟨rfl, hb'⟩; have G4 := Lib.hid hb'; clear hb')
          | (go_at_call 19; (with_reducible refine (K4.out _ _ _ (Na.out.bl (G1.out.trans (G2.out.trans (G3.out.trans G4.out)))) (Nb.out.bl (G1.out.trans (G2.out.trans (G3.out.trans G4.out))))).mono ?_); rintro e w5 ⟨v3, rfl, hr, hb'⟩; have R3 := Lib.hid (hr); have G5 := Lib.hid hb'; clear hr hb')
          | (go_at_call 32; (with_reducible refine (OS.out _ _ R3.out).mono ?_); rintro e w6 ⟨rfl, hb'⟩; have G6 := Lib.hid hb'; clear hb')
          | (go_at_call 32; (with_reducible refine (OD.out _ _ (R1.out.bl (G3.out.trans (G4.out.trans (G5.out.trans G6.out))))).mono ?_); rintro e w7 ⟨rfl, hb'⟩; have G7 := Lib.hid hb'; clear hb')
          | (go_at_call 31; (with_reducible refine (K3.out _ _ (Na.out.bl (G1.out.trans (G2.out.trans (G3.out.trans (G4.out.trans (G5.out.trans (G6.out.trans G7.out)))))))).mono ?_); rintro e w8 ⟨v4, rfl, hr, hb'⟩; have R4 := Lib.hid (hr); have G8 := Lib.hid hb'; clear hr hb')
          | (go_at_call 32; (with_reducible refine (OT.out _ _ R4.out).mono ?_); rintro e w9 ⟨rfl, hb'⟩; have G9 := Lib.hid hb'; clear hb')
          | (go_at_call 29; (with_reducible refine (K1.out _ _ (Na.out.bl (G1.out.trans (G2.out.trans (G3.out.trans (G4.out.trans (G5.out.trans (G6.out.trans (G7.out.trans (G8.out.trans G9.out)))))))))).mono ?_); rintro e w10 ⟨v5, rfl, hr, hb'⟩; have R5 := Lib.hid (hr); have G10 := Lib.hid hb'; clear hr hb')
          | (go_at_call 32; (with_reducible refine (OH.out _ _ R5.out).mono ?_); rintro e w11 ⟨rfl, hb'⟩; have G11 := Lib.hid hb'; clear hb')
          | (go_at_call 30; (with_reducible refine (K2.out _ _ (Na.out.bl (G1.out.trans (G2.out.trans (G3.out.trans (G4.out.trans (G5.out.trans (G6.out.trans (G7.out.trans (G8.out.trans (G9.out.trans (G10.out.trans G11.out)))))))))))).mono ?_); rintro e w12 ⟨v6, rfl, hr, hb'⟩; have R6 := Lib.hid (hr); have G12 := Lib.hid hb'; clear hr hb')
          | (go_at_call 32; (with_reducible refine (OR.out _ _ R6.out).mono ?_); rintro e w13 ⟨rfl, hb'⟩; have G13 := Lib.hid hb'; clear hb')
          | (go_at_call 21; (with_reducible refine (K5.out _ _ (Na.out.bl (G1.out.trans (G2.out.trans (G3.out.trans (G4.out.trans (G5.out.trans (G6.out.trans (G7.out.trans (G8.out.trans (G9.out.trans (G10.out.trans (G11.out.trans (G12.out.trans G13.out)))))))))))))).mono ?_); rintro e w14 ⟨v7, rfl, hr, hb'⟩; have R7 := Lib.hid (hr); have G14 := Lib.hid hb'; clear hr hb')
          | (go_at_call 32; (with_reducible refine (OY.out _ _ R7.out).mono ?_); rintro e w15 ⟨rfl, hb'⟩; have G15 := Lib.hid hb'; clear hb'))
        go_ret
        exact ⟨rfl, (G1.out.trans (G2.out.trans (G3.out.trans (G4.out.trans (G5.out.trans (G6.out.trans (G7.out.trans (G8.out.trans (G9.out.trans (G10.out.trans (G11.out.trans (G12.out.trans (G13.out.trans (G14.out.trans G15.out))))))))))))))⟩
      · skip
        obtain ⟨D, eD⟩ : ∃ D, A - B = D := ⟨_, rfl⟩
        have sD : Hid (Sz 40 D) := sa.out.le (eD ▸ Nat.sub_le _ _)
        have K7 : Hid (∀ W v u, Nu W v A → Nu W u B → Calls Try.prog 14 #[v, u] W (RwErr .u64 W (dig 18446744073709551616 (D)) 0)) := fun W v u h1 h2 => by
          have c := hSub W v u _ _ h1 h2
          rw [if_neg hlt, eD] at c
          exact c
        have OD : Hid (∀ W v, Rw .u64 W v (dig 18446744073709551616 D) → Calls Try.prog 32 #[v] W fun e w => e = .returned (.bool true) ∧ Bl W w) := fun W v h => ordered_any v D (Nat.lt_of_le_of_lt (sD.out.sd (by decide)).lenw (by decide)) W h
        clear ha hb ra rb eA eB hf hlt eN eP eH eR eT eS eY hy hn hN eD
        go_enter Try.func5, Try.ntmps5
        go_wp2_with (first
          | (go_at_call 11; (with_reducible refine (shown4_any hAdd hShr _).mono ?_); rintro e w1 ⟨rfl, hb'⟩; have G1 := Lib.hid (((Bl.refl _).alloc _).trans hb'); clear hb')
          | (go_at_call 12; (with_reducible refine (FE.out _ (Qa.out.bl G1.out) (Qb.out.bl G1.out)).mono ?_); rintro e w' ⟨rfl, rfl⟩)
          | (go_at_call 14; (with_reducible refine (K7.out _ _ _ (Na.out.bl G1.out) (Nb.out.bl G1.out)).mono ?_); rintro e w2 ⟨v1, rfl, hr, hb'⟩; have R1 := Lib.hid (hr); have G2 := Lib.hid hb'; clear hr hb')
          | (go_at_call 17; (with_reducible refine (K6.out _ _ (Na.out.bl (G1.out.trans G2.out))).mono ?_); rintro e w3 ⟨v2, rfl, hr, hb'⟩; have R2 := Lib.hid (hr); have G3 := Lib.hid hb'; clear hr hb')
          | (go_at_call 32; (with_reducible refine (OA.out _ _ R2.out).mono ?_); rintro e w4 ⟨rfl, hb'⟩; have G4 := Lib.hid hb'; clear hb')
          | (go_at_call 19; (with_reducible refine (K4.out _ _ _ (Na.out.bl (G1.out.trans (G2.out.trans (G3.out.trans G4.out)))) (Nb.out.bl (G1.out.trans (G2.out.trans (G3.out.trans G4.out))))).mono ?_); rintro e w5 ⟨v3, rfl, hr, hb'⟩; have R3 := Lib.hid (hr); have G5 := Lib.hid hb'; clear hr hb')
          | (go_at_call 32; (with_reducible refine (OS.out _ _ R3.out).mono ?_); rintro e w6 ⟨rfl, hb'⟩; have G6 := Lib.hid hb'; clear hb')
          | (go_at_call 32; (with_reducible refine (OD.out _ _ (R1.out.bl (G3.out.trans (G4.out.trans (G5.out.trans G6.out))))).mono ?_); rintro e w7 ⟨rfl, hb'⟩; have G7 := Lib.hid hb'; clear hb')
          | (go_at_call 31; (with_reducible refine (K3.out _ _ (Na.out.bl (G1.out.trans (G2.out.trans (G3.out.trans (G4.out.trans (G5.out.trans (G6.out.trans G7.out)))))))).mono ?_); rintro e w8 ⟨v4, rfl, hr, hb'⟩; have R4 := Lib.hid (hr); have G8 := Lib.hid hb'; clear hr hb')
          | (go_at_call 32; (with_reducible refine (OT.out _ _ R4.out).mono ?_); rintro e w9 ⟨rfl, hb'⟩; have G9 := Lib.hid hb'; clear hb')
          | (go_at_call 29; (with_reducible refine (K1.out _ _ (Na.out.bl (G1.out.trans (G2.out.trans (G3.out.trans (G4.out.trans (G5.out.trans (G6.out.trans (G7.out.trans (G8.out.trans G9.out)))))))))).mono ?_); rintro e w10 ⟨v5, rfl, hr, hb'⟩; have R5 := Lib.hid (hr); have G10 := Lib.hid hb'; clear hr hb')
          | (go_at_call 32; (with_reducible refine (OH.out _ _ R5.out).mono ?_); rintro e w11 ⟨rfl, hb'⟩; have G11 := Lib.hid hb'; clear hb')
          | (go_at_call 30; (with_reducible refine (K2.out _ _ (Na.out.bl (G1.out.trans (G2.out.trans (G3.out.trans (G4.out.trans (G5.out.trans (G6.out.trans (G7.out.trans (G8.out.trans (G9.out.trans (G10.out.trans G11.out)))))))))))).mono ?_); rintro e w12 ⟨v6, rfl, hr, hb'⟩; have R6 := Lib.hid (hr); have G12 := Lib.hid hb'; clear hr hb')
          | (go_at_call 32; (with_reducible refine (OR.out _ _ R6.out).mono ?_); rintro e w13 ⟨rfl, hb'⟩; have G13 := Lib.hid hb'; clear hb')
          | (go_at_call 21; (with_reducible refine (K5.out _ _ (Na.out.bl (G1.out.trans (G2.out.trans (G3.out.trans (G4.out.trans (G5.out.trans (G6.out.trans (G7.out.trans (G8.out.trans (G9.out.trans (G10.out.trans (G11.out.trans (G12.out.trans G13.out)))))))))))))).mono ?_); rintro e w14 ⟨v7, rfl, hr, hb'⟩; have R7 := Lib.hid (hr); have G14 := Lib.hid hb'; clear hr hb')
          | (go_at_call 32; (with_reducible refine (OY.out _ _ R7.out).mono ?_); rintro e w15 ⟨rfl, hb'⟩; have G15 := Lib.hid hb'; clear hb'))
        go_ret
        exact ⟨rfl, (G1.out.trans (G2.out.trans (G3.out.trans (G4.out.trans (G5.out.trans (G6.out.trans (G7.out.trans (G8.out.trans (G9.out.trans (G10.out.trans (G11.out.trans (G12.out.trans (G13.out.trans (G14.out.trans G15.out))))))))))))))⟩
  · skip
    have FE := Lib.hid (fun W h1 h2 => few_no va vb la lb hf (rw_len ra) (rw_len rb) W h1 h2)
    have Qa := Lib.hid ra
    have Qb := Lib.hid rb
    clear ha hb ra rb hf hy hn
    go_enter Try.func5, Try.ntmps5
    go_wp2_with (first
      | (go_at_call 11; (with_reducible refine (shown4_any hAdd hShr _).mono ?_); rintro e w1 ⟨rfl, hb'⟩; have G1 := Lib.hid (((Bl.refl _).alloc _).trans hb'); clear hb')
      | (go_at_call 12; (with_reducible refine (FE.out _ (Qa.out.bl G1.out) (Qb.out.bl G1.out)).mono ?_); rintro e w' ⟨rfl, rfl⟩))
    go_ret
    exact ⟨rfl, G1.out⟩
end Go.Proofs.Ytdbmfbfdiadiaaa
