/-
  The walk of QuotWhole, for arguments as long as the form allows.
-/
import Derived.Test.YtdoohlehglakfaaPk31
import Derived.Test.YtdoohlehglakfaaPk35
namespace Go.Proofs.Ytdoohlehglakfaa
open Go.RowKit
set_option linter.unusedVariables false
set_option linter.unusedSimpArgs false

set_option maxRecDepth 100000 in
set_option maxHeartbeats 8000000 in
theorem quotWhole_walkz (va : Value) (la : List Nat) (vd : Value) (ld : List Nat) (ha : All 18446744073709551616 la) (hd : All 18446744073709551616 ld) (w : World) (ra : Rw .u64 w va la) (rd : Rw .u64 w vd ld) (za : la.length ≤ 17592186043904) (zd : ld.length ≤ 17592186043904) :
    Calls Try.prog 3 #[va, vd] w fun e w' => e = .returned (.bool true) ∧ Bl w w' := by
  by_cases hf : la.length ≤ 30 ∧ ld.length ≤ 30
  · skip
    have FE := Lib.hid (fun W h1 h2 => few6_yes va vd la ld hf.1 hf.2 W h1 h2)
    have Na : Hid (Nu w va (val 18446744073709551616 la)) := Nu.mk ra ha (by omega)
    have sA := Lib.hid (Sz.of_val ha (k := 30) (by omega))
    have Qa := Lib.hid ra
    obtain ⟨A, eA⟩ : ∃ x, val 18446744073709551616 la = x := ⟨_, rfl⟩
    rw [eA] at Na sA
    have Nd : Hid (Nu w vd (val 18446744073709551616 ld)) := Nu.mk rd hd (by omega)
    have sD := Lib.hid (Sz.of_val hd (k := 30) (by omega))
    have Qd := Lib.hid rd
    obtain ⟨D, eD⟩ : ∃ x, val 18446744073709551616 ld = x := ⟨_, rfl⟩
    rw [eD] at Nd sD
    by_cases hD : D = 0
    · subst hD
      have K1 : Hid (∀ W v u, Nu W v A → Nu W u 0 → Calls Try.prog 6 #[v, u] W (RwEnd3 W [] [] 2)) := fun W v u h0 h1 => by
        have c := pDiv0 W v u A h0 h1
        exact c
      have D1 : Hid (∀ W v, Nu W v 0 → Calls Try.prog 7 #[v] W (RwEnd .i64 W (dig 65536 0))) := fun W v h0 => by
        have c := kDg h0
        exact c
      have LN : Hid ((dig 65536 0).length = 0) := rfl
      clear ha hd ra rd eA eD hf za zd
      go_enter Try.func3, Try.ntmps3
      go_wp2_with (first
        | (go_at_call 4; (with_reducible refine (shown6_any _).mono ?_); rintro e w1 ⟨rfl, hb'⟩; have G1 := Lib.hid hb'; clear hb')
        | (go_at_call 5; (with_reducible refine (FE.out _ (Qa.out.bl G1.out) (Qd.out.bl G1.out)).mono ?_); rintro e w' ⟨rfl, rfl⟩)
        | (go_at_call 6; (with_reducible refine (K1.out _ _ _ (Na.out.bl G1.out) (Nd.out.bl G1.out)).mono ?_); rintro e w2 ⟨q, r, rfl, hr, hs, hb'⟩; have Rq := Lib.hid (hr); have Rr := Lib.hid (hs); have G2 := Lib.hid hb'; clear hr hs hb')
        | (go_at_call 7; (with_reducible refine (D1.out _ _ (Nd.out.bl (G1.out.trans G2.out))).mono ?_); rintro e w3 ⟨d1, rfl, hr, hb'⟩; have G_1 := Lib.hid (hr); have G3 := Lib.hid hb'; clear hr hb'; obtain ⟨A_1, k_1, e_1⟩ := rw_shape G_1.out LN.out; subst e_1))
      go_ret
      exact ⟨rfl, (G1.out.trans (G2.out.trans G3.out))⟩
    · skip
      have hpD : 0 < D := Nat.pos_of_ne_zero hD
      obtain ⟨Q, eQ⟩ : ∃ yy, A / D = yy := ⟨_, rfl⟩
      have sQ : Hid (Sz 30 Q) := (by rw [← eQ]; exact sA.out.le (Nat.div_le_self _ _))
      obtain ⟨R, eR⟩ : ∃ yy, A % D = yy := ⟨_, rfl⟩
      have sR : Hid (Sz 30 R) := (by rw [← eR]; exact sA.out.le (Nat.mod_le _ _))
      obtain ⟨P, eP⟩ : ∃ yy, Q * D = yy := ⟨_, rfl⟩
      have sP : Hid (Sz 60 P) := (by rw [← eP]; exact szmul sQ.out sD.out)
      have eA2 : P + R = A := by rw [← eP, ← eQ, ← eR]; exact Nat.div_add_mod' A D
      have hRD : R < D := by rw [← eR]; exact Nat.mod_lt _ hpD
      have hAA : cmpi A A = 0 := by unfold cmpi; rw [if_neg (by omega), if_neg (by omega)]
      have K1 : Hid (∀ W v u, Nu W v A → Nu W u D → Calls Try.prog 6 #[v, u] W (RwEnd3 W (dig 18446744073709551616 Q) (dig 18446744073709551616 R) 0)) := fun W v u h0 h1 => by
        have c := pDiv W v u A D 30 30 h0 h1 hpD sA.out sD.out (by decide) (by decide)
        rw [eQ, eR] at c
        exact c
      have K2 : Hid (∀ W v u, Nu W v Q → Nu W u D → Calls Try.prog 9 #[v, u] W (RwEnd .u64 W (dig 18446744073709551616 P))) := fun W v u h0 h1 => by
        have c := rtimes_any W v u Q D 30 30 h0 h1 sQ.out sD.out (by decide)
        rw [eP] at c
        exact c
      have D1 : Hid (∀ W v, Nu W v P → Calls Try.prog 7 #[v] W (RwEnd .i64 W (dig 65536 P))) := fun W v h0 => by
        have c := kDg h0
        exact c
      have D2 : Hid (∀ W v, Nu W v R → Calls Try.prog 7 #[v] W (RwEnd .i64 W (dig 65536 R))) := fun W v h0 => by
        have c := kDg h0
        exact c
      have D3 : Hid (∀ W v u, De W v P → De W u R → Calls Try.prog 8 #[v, u] W (RwEnd .i64 W (dig 65536 A))) := fun W v u h0 h1 => by
        have c := kAdd P R (sP.out.sd (by decide)) (sR.out.sd (by decide)) W v u h0 h1
        rw [eA2] at c
        exact c
      have D4 : Hid (∀ W v, Nu W v A → Calls Try.prog 7 #[v] W (RwEnd .i64 W (dig 65536 A))) := fun W v h0 => by
        have c := kDg h0
        exact c
      have C1 : Hid (∀ W v u, De W v A → De W u A → Calls Try.prog 10 #[v, u] W (fun e w' => e = .returned (.int .i64 0) ∧ Bl W w')) := fun W v u h0 h1 => by
        have c := kCmp A A (sA.out.sd (by decide)) (sA.out.sd (by decide)) W v u h0 h1
        rw [hAA] at c
        exact c
      have D5 : Hid (∀ W v, Nu W v D → Calls Try.prog 7 #[v] W (RwEnd .i64 W (dig 65536 D))) := fun W v h0 => by
        have c := kDg h0
        exact c
      have C2 : Hid (∀ W v u, De W v R → De W u D → Calls Try.prog 10 #[v, u] W (fun e w' => e = .returned (.int .i64 (-1)) ∧ Bl W w')) := fun W v u h0 h1 => by
        have c := kCmp R D (sR.out.sd (by decide)) (sD.out.sd (by decide)) W v u h0 h1
        rw [cmpi_lt hRD] at c
        exact c
      clear ha hd ra rd eA eD hf za zd eQ eR eP eA2 hRD hAA hD hpD
      go_enter Try.func3, Try.ntmps3
      go_wp2_with (first
        | (go_at_call 4; (with_reducible refine (shown6_any _).mono ?_); rintro e w1 ⟨rfl, hb'⟩; have G1 := Lib.hid hb'; clear hb')
        | (go_at_call 5; (with_reducible refine (FE.out _ (Qa.out.bl G1.out) (Qd.out.bl G1.out)).mono ?_); rintro e w' ⟨rfl, rfl⟩)
        | (go_at_call 6; (with_reducible refine (K1.out _ _ _ (Na.out.bl G1.out) (Nd.out.bl G1.out)).mono ?_); rintro e w2 ⟨q, r, rfl, hr, hs, hb'⟩; have Nq := Lib.hid (Nu.dig hr sQ.out (by decide)); have Nr := Lib.hid (Nu.dig hs sR.out (by decide)); have G2 := Lib.hid hb'; clear hr hs hb')
        | (go_at_call 9; (with_reducible refine (K2.out _ _ _ Nq.out (Nd.out.bl (G1.out.trans G2.out))).mono ?_); rintro e w3 ⟨p, rfl, hr, hb'⟩; have Np := Lib.hid (Nu.dig hr sP.out (by decide)); have G3 := Lib.hid hb'; clear hr hb')
        | (go_at_call 7; (with_reducible refine (D1.out _ _ Np.out).mono ?_); rintro e w4 ⟨d1, rfl, hr, hb'⟩; have G_1 := Lib.hid (hr); have G4 := Lib.hid hb'; clear hr hb')
        | (go_at_call 7; (with_reducible refine (D2.out _ _ (Nr.out.bl (G3.out.trans G4.out))).mono ?_); rintro e w5 ⟨d2, rfl, hr, hb'⟩; have G_2 := Lib.hid (hr); have G5 := Lib.hid hb'; clear hr hb')
        | (go_at_call 8; (with_reducible refine (D3.out _ _ _ (G_1.out.bl G5.out) G_2.out).mono ?_); rintro e w6 ⟨d3, rfl, hr, hb'⟩; have G_3 := Lib.hid (hr); have G6 := Lib.hid hb'; clear hr hb')
        | (go_at_call 7; (with_reducible refine (D4.out _ _ (Na.out.bl (G1.out.trans (G2.out.trans (G3.out.trans (G4.out.trans (G5.out.trans G6.out))))))).mono ?_); rintro e w7 ⟨d4, rfl, hr, hb'⟩; have G_4 := Lib.hid (hr); have G7 := Lib.hid hb'; clear hr hb')
        | (go_at_call 10; (with_reducible refine (C1.out _ _ _ (G_3.out.bl G7.out) G_4.out).mono ?_); rintro e w8 ⟨rfl, hb'⟩; have G8 := Lib.hid hb'; clear hb')
        | (go_at_call 7; (with_reducible refine (D2.out _ _ (Nr.out.bl (G3.out.trans (G4.out.trans (G5.out.trans (G6.out.trans (G7.out.trans G8.out))))))).mono ?_); rintro e w9 ⟨d5, rfl, hr, hb'⟩; have G_5 := Lib.hid (hr); have G9 := Lib.hid hb'; clear hr hb')
        | (go_at_call 7; (with_reducible refine (D5.out _ _ (Nd.out.bl (G1.out.trans (G2.out.trans (G3.out.trans (G4.out.trans (G5.out.trans (G6.out.trans (G7.out.trans (G8.out.trans G9.out)))))))))).mono ?_); rintro e w10 ⟨d6, rfl, hr, hb'⟩; have G_6 := Lib.hid (hr); have G10 := Lib.hid hb'; clear hr hb')
        | (go_at_call 10; (with_reducible refine (C2.out _ _ _ (G_5.out.bl G10.out) G_6.out).mono ?_); rintro e w11 ⟨rfl, hb'⟩; have G11 := Lib.hid hb'; clear hb'))
      go_ret
      exact ⟨rfl, (G1.out.trans (G2.out.trans (G3.out.trans (G4.out.trans (G5.out.trans (G6.out.trans (G7.out.trans (G8.out.trans (G9.out.trans (G10.out.trans G11.out))))))))))⟩
  · skip
    have FE := Lib.hid (fun W h1 h2 => few6_no va vd la ld hf (rw_len ra) (rw_len rd) W h1 h2)
    have Na : Hid (NuZ w va (val 18446744073709551616 la)) := NuZ.mk ra ha (by omega)
    have Nd : Hid (NuZ w vd (val 18446744073709551616 ld)) := NuZ.mk rd hd (by omega)
    have sA : Hid (Sz la.length (val 18446744073709551616 la)) := Sz.of_val ha (Nat.le_refl _)
    have sD : Hid (Sz ld.length (val 18446744073709551616 ld)) := Sz.of_val hd (Nat.le_refl _)
    have Qa := Lib.hid ra
    have Qd := Lib.hid rd
    obtain ⟨A, eA⟩ : ∃ x, val 18446744073709551616 la = x := ⟨_, rfl⟩
    obtain ⟨D, eD⟩ : ∃ x, val 18446744073709551616 ld = x := ⟨_, rfl⟩
    rw [eA] at Na sA
    rw [eD] at Nd sD
    by_cases hD : D = 0
    · subst hD
      have K1 : Hid (∀ W v u, NuZ W v A → NuZ W u 0 → Calls Try.prog 6 #[v, u] W (RwEnd3 W [] [] 2)) := fun W v u h0 h1 => by
        have c := pDiv0Z W v u A h0 h1
        exact c
      clear ha hd ra rd eA eD hf za zd
      go_enter Try.func3, Try.ntmps3
      go_wp2_with (first
        | (go_at_call 4; (with_reducible refine (shown6_any _).mono ?_); rintro e w1 ⟨rfl, hb'⟩; have G1 := Lib.hid hb'; clear hb')
        | (go_at_call 5; (with_reducible refine (FE.out _ (Qa.out.bl G1.out) (Qd.out.bl G1.out)).mono ?_); rintro e w' ⟨rfl, rfl⟩)
        | (go_at_call 6; (with_reducible refine (K1.out _ _ _ (Na.out.bl G1.out) (Nd.out.bl G1.out)).mono ?_); rintro e w2 ⟨q, r, rfl, hr, hs, hb'⟩; have Rq := Lib.hid (hr); have Rr := Lib.hid (hs); have G2 := Lib.hid hb'; clear hr hs hb'))
      go_ret
      exact ⟨rfl, (G1.out.trans G2.out)⟩
    · skip
      have hpD : 0 < D := Nat.pos_of_ne_zero hD
      have K1 : Hid (∀ W v u, NuZ W v A → NuZ W u D → Calls Try.prog 6 #[v, u] W (RwEnd3 W (dig 18446744073709551616 (A / D)) (dig 18446744073709551616 (A % D)) 0)) := fun W v u h0 h1 => by
        have c := pDivZ W v u A D la.length ld.length h0 h1 hpD sA.out sD.out (by omega) (by omega)
        exact c
      clear ha hd ra rd eA eD hf za zd hD hpD
      go_enter Try.func3, Try.ntmps3
      go_wp2_with (first
        | (go_at_call 4; (with_reducible refine (shown6_any _).mono ?_); rintro e w1 ⟨rfl, hb'⟩; have G1 := Lib.hid hb'; clear hb')
        | (go_at_call 5; (with_reducible refine (FE.out _ (Qa.out.bl G1.out) (Qd.out.bl G1.out)).mono ?_); rintro e w' ⟨rfl, rfl⟩)
        | (go_at_call 6; (with_reducible refine (K1.out _ _ _ (Na.out.bl G1.out) (Nd.out.bl G1.out)).mono ?_); rintro e w2 ⟨q, r, rfl, hr, hs, hb'⟩; have Rq := Lib.hid (hr); have Rr := Lib.hid (hs); have G2 := Lib.hid hb'; clear hr hs hb'))
      go_ret
      exact ⟨rfl, (G1.out.trans G2.out)⟩
end Go.Proofs.Ytdoohlehglakfaa
