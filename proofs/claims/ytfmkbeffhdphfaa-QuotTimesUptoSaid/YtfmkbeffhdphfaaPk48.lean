/-
  The walk of QuotTimes.
-/
import Derived.Test.YtfmkbeffhdphfaaPk31
namespace Go.Proofs.Ytfmkbeffhdphfaa
open Go.RowKit
set_option linter.unusedVariables false
set_option linter.unusedSimpArgs false

set_option maxRecDepth 100000 in
set_option maxHeartbeats 8000000 in
theorem quotTimes_walk (va : Value) (la : List Nat) (vd : Value) (ld : List Nat) (x : Nat) (ha : All 18446744073709551616 la) (hd : All 18446744073709551616 ld) (hx : x < 18446744073709551616) (w : World) (ra : Rw .u64 w va la) (rd : Rw .u64 w vd ld) (hsm : ld.length < 1048576) :
    Calls Try.prog 6 #[va, vd, .int .u64 (x : Int)] w fun e w' => e = .returned (.bool true) ∧ Bl w w' := by
  by_cases hf : la.length ≤ 30 ∧ ld.length ≤ 30
  · skip
    have FE := Lib.hid (fun W h1 h2 => few6_yes va vd la ld hf.1 hf.2 W h1 h2)
    have Na : Hid (Nu w va (val 18446744073709551616 la)) := Nu.mk ra ha (by omega)
    have sA := Lib.hid (Sz.of_val ha (k := 30) (by omega))
    have Qa := Lib.hid ra
    obtain ⟨A, eA⟩ : ∃ x, val 18446744073709551616 la = x := ⟨_, rfl⟩
    rw [eA] at Na sA
    have Nd : Hid (Nu w vd (val 18446744073709551616 ld)) := Nu.mk rd hd (by omega)
    have sD := Lib.hid (Sz.of_val hd (k := 30) (by omega))
    have Qd := Lib.hid rd
    obtain ⟨D, eD⟩ : ∃ x, val 18446744073709551616 ld = x := ⟨_, rfl⟩
    rw [eD] at Nd sD
    have HX := Lib.hid hx
    have sx : Hid (Sz 1 x) := by show Sz 1 x; unfold Sz; rw [Nat.pow_one]; exact hx
    by_cases hD : D = 0
    · subst hD
      have D1 : Hid (∀ W v, Nu W v 0 → Calls Try.prog 17 #[v] W (RwEnd .i64 W (dig 65536 0))) := fun W v h0 => by
        have c := kDg h0
        exact c
      have LN : Hid ((dig 65536 0).length = 0) := rfl
      clear ha hd ra rd eA eD hf hx hsm
      go_enter Try.func6, Try.ntmps6
      go_wp2_with (first
        | (go_at_call 10; (with_reducible refine (shown6_any _).mono ?_); rintro e w1 ⟨rfl, hb'⟩; have G1 := Lib.hid hb'; clear hb')
        | (go_at_call 11; (with_reducible refine (FE.out _ (Qa.out.bl G1.out) (Qd.out.bl G1.out)).mono ?_); rintro e w' ⟨rfl, rfl⟩)
        | (go_at_call 17; (with_reducible refine (D1.out _ _ (Nd.out.bl G1.out)).mono ?_); rintro e w2 ⟨d1, rfl, hr, hb'⟩; have G_1 := Lib.hid (hr); have G2 := Lib.hid hb'; clear hr hb'; obtain ⟨A_1, k_1, e_1⟩ := rw_shape G_1.out LN.out; subst e_1))
      go_ret
      exact ⟨rfl, (G1.out.trans G2.out)⟩
    · skip
      have hpD : 0 < D := Nat.pos_of_ne_zero hD
      obtain ⟨P, eP⟩ : ∃ yy, A * D = yy := ⟨_, rfl⟩
      have sP : Hid (Sz 60 P) := (by rw [← eP]; exact szmul sA.out sD.out)
      have eP1 : P / D = A := by rw [← eP]; exact Nat.mul_div_cancel _ hpD
      have eP2 : P % D = 0 := by rw [← eP]; exact Nat.mul_mod_left _ _
      have hdl := dig_len_pos 65536 (by decide) D hpD
      have hdl2 := (sD.out.sd (by decide)).len
      obtain ⟨n, en⟩ : ∃ n, (dig 65536 D).length = n := ⟨_, rfl⟩
      have LN := Lib.hid en
      have n0 : ((n : Int) == 0) = false := by rw [beq_eq_false_iff_ne]; omega
      have hz0 : dig 18446744073709551616 0 = [] := rfl
      have D1 : Hid (∀ W v, Nu W v D → Calls Try.prog 17 #[v] W (RwEnd .i64 W (dig 65536 D))) := fun W v h0 => by
        have c := kDg h0
        exact c
      have K1 : Hid (∀ W v u, Nu W v A → Nu W u D → Calls Try.prog 26 #[v, u] W (RwEnd .u64 W (dig 18446744073709551616 P))) := fun W v u h0 h1 => by
        have c := rtimes_any W v u A D 30 30 h0 h1 sA.out sD.out (by decide)
        rw [eP] at c
        exact c
      have K2 : Hid (∀ W v u, Nu W v P → Nu W u D → Calls Try.prog 12 #[v, u] W (RwEnd3 W (dig 18446744073709551616 A) (dig 18446744073709551616 0) 0)) := fun W v u h0 h1 => by
        have c := pDiv W v u P D 60 30 h0 h1 hpD sP.out sD.out (by decide) (by decide)
        rw [eP1, eP2] at c
        exact c
      have D2 : Hid (∀ W v, Nu W v A → Calls Try.prog 17 #[v] W (RwEnd .i64 W (dig 65536 A))) := fun W v h0 => by
        have c := kDg h0
        exact c
      have D3 : Hid (∀ W v, De W v A → Calls Try.prog 16 #[v] W (RwEnd .u64 W (dig 18446744073709551616 A))) := fun W v h0 => by
        have c := kWords A (sA.out.sd (by decide)) W v h0
        exact c
      have E1 := Lib.hid (kSame A (sA.out.sd (by decide)))
      have D4 : Hid (∀ W v, Nu W v x → Calls Try.prog 17 #[v] W (RwEnd .i64 W (dig 65536 x))) := fun W v h0 => by
        have c := kDg h0
        exact c
      have L0 : Hid ((dig 18446744073709551616 0).length = 0) := rfl
      by_cases hlt : x < D
      · skip
        obtain ⟨Z, eZ⟩ : ∃ yy, P + x = yy := ⟨_, rfl⟩
        have sZ : Hid (Sz 61 Z) := (by rw [← eZ]; exact sP.out.add (sx.out.mono (by decide)))
        have eZ1 : Z / D = A := by rw [← eZ, ← eP, Nat.add_comm, Nat.add_mul_div_right _ _ hpD, Nat.div_eq_of_lt hlt, Nat.zero_add]
        have eZ2 : Z % D = x := by rw [← eZ, ← eP, Nat.add_comm, Nat.add_mul_mod_self_right, Nat.mod_eq_of_lt hlt]
        have C1 : Hid (∀ W v u, De W v x → De W u D → Calls Try.prog 27 #[v, u] W (fun e w' => e = .returned (.int .i64 (-1)) ∧ Bl W w')) := fun W v u h0 h1 => by
          have c := kCmp x D (sx.out.sd (by decide)) (sD.out.sd (by decide)) W v u h0 h1
          rw [cmpi_lt hlt] at c
          exact c
        have D5 : Hid (∀ W v, Nu W v P → Calls Try.prog 17 #[v] W (RwEnd .i64 W (dig 65536 P))) := fun W v h0 => by
          have c := kDg h0
          exact c
        have D6 : Hid (∀ W v u, De W v P → De W u x → Calls Try.prog 25 #[v, u] W (RwEnd .i64 W (dig 65536 Z))) := fun W v u h0 h1 => by
          have c := kAdd P x (sP.out.sd (by decide)) (sx.out.sd (by decide)) W v u h0 h1
          rw [eZ] at c
          exact c
        have D7 : Hid (∀ W v, De W v Z → Calls Try.prog 16 #[v] W (RwEnd .u64 W (dig 18446744073709551616 Z))) := fun W v h0 => by
          have c := kWords Z (sZ.out.sd (by decide)) W v h0
          exact c
        have K3 : Hid (∀ W v u, Nu W v Z → Nu W u D → Calls Try.prog 12 #[v, u] W (RwEnd3 W (dig 18446744073709551616 A) (dig 18446744073709551616 x) 0)) := fun W v u h0 h1 => by
          have c := pDiv W v u Z D 61 30 h0 h1 hpD sZ.out sD.out (by decide) (by decide)
          rw [eZ1, eZ2] at c
          exact c
        have D8 : Hid (∀ W v, De W v x → Calls Try.prog 16 #[v] W (RwEnd .u64 W (dig 18446744073709551616 x))) := fun W v h0 => by
          have c := kWords x (sx.out.sd (by decide)) W v h0
          exact c
        have E2 := Lib.hid (kSame x (sx.out.sd (by decide)))
        clear ha hd ra rd eA eD hf hx hsm hD hpD eP eP1 eP2 hdl hdl2 en hz0 hlt eZ eZ1 eZ2
        go_enter Try.func6, Try.ntmps6
        go_wp2_with (first
          | (go_at_call 10; (with_reducible refine (shown6_any _).mono ?_); rintro e w1 ⟨rfl, hb'⟩; have G1 := Lib.hid hb'; clear hb')
          | (go_at_call 11; (with_reducible refine (FE.out _ (Qa.out.bl G1.out) (Qd.out.bl G1.out)).mono ?_); rintro e w' ⟨rfl, rfl⟩)
          | (go_at_call 17; (with_reducible refine (D1.out _ _ (Nd.out.bl G1.out)).mono ?_); rintro e w2 ⟨d1, rfl, hr, hb'⟩; have G_1 := Lib.hid (hr); have G2 := Lib.hid hb'; clear hr hb'; obtain ⟨A_1, k_1, e_1⟩ := rw_shape G_1.out LN.out; subst e_1)
          | (go_at_call 26; (with_reducible refine (K1.out _ _ _ (Na.out.bl (G1.out.trans G2.out)) (Nd.out.bl (G1.out.trans G2.out))).mono ?_); rintro e w3 ⟨p, rfl, hr, hb'⟩; have Np := Lib.hid (Nu.dig hr sP.out (by decide)); have G3 := Lib.hid hb'; clear hr hb')
          | (go_at_call 12; (with_reducible refine (K2.out _ _ _ Np.out (Nd.out.bl (G1.out.trans (G2.out.trans G3.out)))).mono ?_); rintro e w4 ⟨q, r, rfl, hr, hs, hb'⟩; have Rq := Lib.hid (hr); have Rr := Lib.hid (hs); have G4 := Lib.hid hb'; clear hr hs hb'; obtain ⟨A_2, k_2, e_2⟩ := rw_shape Rr.out L0.out; subst e_2)
          | (go_at_call 17; (with_reducible refine (D2.out _ _ (Na.out.bl (G1.out.trans (G2.out.trans (G3.out.trans G4.out))))).mono ?_); rintro e w5 ⟨d2, rfl, hr, hb'⟩; have G_2 := Lib.hid (hr); have G5 := Lib.hid hb'; clear hr hb')
          | (go_at_call 16; (with_reducible refine (D3.out _ _ G_2.out).mono ?_); rintro e w6 ⟨d3, rfl, hr, hb'⟩; have G_3 := Lib.hid (hr); have G6 := Lib.hid hb'; clear hr hb')
          | (go_at_call 15; (with_reducible refine (E1.out _ _ _ (Rq.out.bl (G5.out.trans G6.out)) G_3.out).mono ?_); rintro e w7 ⟨rfl, hb'⟩; have G7 := Lib.hid hb'; clear hb')
          | (go_at_call 17; (with_reducible refine (D4.out _ _ (nu_lit (by simp) rfl HX.out)).mono ?_); rintro e w8 ⟨d4, rfl, hr, hb'⟩; have G_4 := Lib.hid (hr); have G8 := Lib.hid (((Bl.refl _).alloc _).trans hb'); clear hr hb')
          | (go_at_call 27; (with_reducible refine (C1.out _ _ _ G_4.out (G_1.out.bl (G3.out.trans (G4.out.trans (G5.out.trans (G6.out.trans (G7.out.trans G8.out))))))).mono ?_); rintro e w9 ⟨rfl, hb'⟩; have G9 := Lib.hid hb'; clear hb')
          | (go_at_call 17; (with_reducible refine (D5.out _ _ (Np.out.bl (G4.out.trans (G5.out.trans (G6.out.trans (G7.out.trans (G8.out.trans G9.out))))))).mono ?_); rintro e w10 ⟨d5, rfl, hr, hb'⟩; have G_5 := Lib.hid (hr); have G10 := Lib.hid hb'; clear hr hb')
          | (go_at_call 25; (with_reducible refine (D6.out _ _ _ G_5.out (G_4.out.bl (G9.out.trans G10.out))).mono ?_); rintro e w11 ⟨d6, rfl, hr, hb'⟩; have G_6 := Lib.hid (hr); have G11 := Lib.hid hb'; clear hr hb')
          | (go_at_call 16; (with_reducible refine (D7.out _ _ G_6.out).mono ?_); rintro e w12 ⟨d7, rfl, hr, hb'⟩; have Nz := Lib.hid (Nu.dig hr sZ.out (by decide)); have G12 := Lib.hid hb'; clear hr hb')
          | (go_at_call 12; (with_reducible refine (K3.out _ _ _ Nz.out (Nd.out.bl (G1.out.trans (G2.out.trans (G3.out.trans (G4.out.trans (G5.out.trans (G6.out.trans (G7.out.trans (G8.out.trans (G9.out.trans (G10.out.trans (G11.out.trans G12.out))))))))))))).mono ?_); rintro e w13 ⟨s1, t1, rfl, hr, hs, hb'⟩; have Rs := Lib.hid (hr); have Rt := Lib.hid (hs); have G13 := Lib.hid hb'; clear hr hs hb')
          | (go_at_call 15; (with_reducible refine (E1.out _ _ _ Rs.out (Rq.out.bl (G5.out.trans (G6.out.trans (G7.out.trans (G8.out.trans (G9.out.trans (G10.out.trans (G11.out.trans (G12.out.trans G13.out)))))))))).mono ?_); rintro e w14 ⟨rfl, hb'⟩; have G14 := Lib.hid hb'; clear hb')
          | (go_at_call 16; (with_reducible refine (D8.out _ _ (G_4.out.bl (G9.out.trans (G10.out.trans (G11.out.trans (G12.out.trans (G13.out.trans G14.out))))))).mono ?_); rintro e w15 ⟨d8, rfl, hr, hb'⟩; have G_8 := Lib.hid (hr); have G15 := Lib.hid hb'; clear hr hb')
          | (go_at_call 15; (with_reducible refine (E2.out _ _ _ (Rt.out.bl (G14.out.trans G15.out)) G_8.out).mono ?_); rintro e w16 ⟨rfl, hb'⟩; have G16 := Lib.hid hb'; clear hb'))
        go_ret
        exact ⟨rfl, (G1.out.trans (G2.out.trans (G3.out.trans (G4.out.trans (G5.out.trans (G6.out.trans (G7.out.trans (G8.out.trans (G9.out.trans (G10.out.trans (G11.out.trans (G12.out.trans (G13.out.trans (G14.out.trans (G15.out.trans G16.out)))))))))))))))⟩
      · skip
        obtain ⟨z, ez⟩ : ∃ yy, cmpi x D = yy := ⟨_, rfl⟩
        have hz : 0 ≤ z := by rw [← ez]; unfold cmpi; rw [if_neg hlt]; split <;> decide
        have z1 : decide ((0 : Int) ≤ z) = true := decide_eq_true hz
        have C1 : Hid (∀ W v u, De W v x → De W u D → Calls Try.prog 27 #[v, u] W (fun e w' => e = .returned (.int .i64 z) ∧ Bl W w')) := fun W v u h0 h1 => by
          have c := kCmp x D (sx.out.sd (by decide)) (sD.out.sd (by decide)) W v u h0 h1
          rw [ez] at c
          exact c
        clear ha hd ra rd eA eD hf hx hsm hD hpD eP eP1 eP2 hdl hdl2 en hz0 hlt ez hz
        go_enter Try.func6, Try.ntmps6
        go_wp2_with (first
          | (go_at_call 10; (with_reducible refine (shown6_any _).mono ?_); rintro e w1 ⟨rfl, hb'⟩; have G1 := Lib.hid hb'; clear hb')
          | (go_at_call 11; (with_reducible refine (FE.out _ (Qa.out.bl G1.out) (Qd.out.bl G1.out)).mono ?_); rintro e w' ⟨rfl, rfl⟩)
          | (go_at_call 17; (with_reducible refine (D1.out _ _ (Nd.out.bl G1.out)).mono ?_); rintro e w2 ⟨d1, rfl, hr, hb'⟩; have G_1 := Lib.hid (hr); have G2 := Lib.hid hb'; clear hr hb'; obtain ⟨A_1, k_1, e_1⟩ := rw_shape G_1.out LN.out; subst e_1)
          | (go_at_call 26; (with_reducible refine (K1.out _ _ _ (Na.out.bl (G1.out.trans G2.out)) (Nd.out.bl (G1.out.trans G2.out))).mono ?_); rintro e w3 ⟨p, rfl, hr, hb'⟩; have Np := Lib.hid (Nu.dig hr sP.out (by decide)); have G3 := Lib.hid hb'; clear hr hb')
          | (go_at_call 12; (with_reducible refine (K2.out _ _ _ Np.out (Nd.out.bl (G1.out.trans (G2.out.trans G3.out)))).mono ?_); rintro e w4 ⟨q, r, rfl, hr, hs, hb'⟩; have Rq := Lib.hid (hr); have Rr := Lib.hid (hs); have G4 := Lib.hid hb'; clear hr hs hb'; obtain ⟨A_2, k_2, e_2⟩ := rw_shape Rr.out L0.out; subst e_2)
          | (go_at_call 17; (with_reducible refine (D2.out _ _ (Na.out.bl (G1.out.trans (G2.out.trans (G3.out.trans G4.out))))).mono ?_); rintro e w5 ⟨d2, rfl, hr, hb'⟩; have G_2 := Lib.hid (hr); have G5 := Lib.hid hb'; clear hr hb')
          | (go_at_call 16; (with_reducible refine (D3.out _ _ G_2.out).mono ?_); rintro e w6 ⟨d3, rfl, hr, hb'⟩; have G_3 := Lib.hid (hr); have G6 := Lib.hid hb'; clear hr hb')
          | (go_at_call 15; (with_reducible refine (E1.out _ _ _ (Rq.out.bl (G5.out.trans G6.out)) G_3.out).mono ?_); rintro e w7 ⟨rfl, hb'⟩; have G7 := Lib.hid hb'; clear hb')
          | (go_at_call 17; (with_reducible refine (D4.out _ _ (nu_lit (by simp) rfl HX.out)).mono ?_); rintro e w8 ⟨d4, rfl, hr, hb'⟩; have G_4 := Lib.hid (hr); have G8 := Lib.hid (((Bl.refl _).alloc _).trans hb'); clear hr hb')
          | (go_at_call 27; (with_reducible refine (C1.out _ _ _ G_4.out (G_1.out.bl (G3.out.trans (G4.out.trans (G5.out.trans (G6.out.trans (G7.out.trans G8.out))))))).mono ?_); rintro e w9 ⟨rfl, hb'⟩; have G9 := Lib.hid hb'; clear hb'))
        go_ret
        exact ⟨rfl, (G1.out.trans (G2.out.trans (G3.out.trans (G4.out.trans (G5.out.trans (G6.out.trans (G7.out.trans (G8.out.trans G9.out))))))))⟩
  · skip
    have FE := Lib.hid (fun W h1 h2 => few6_no va vd la ld hf (rw_len ra) (rw_len rd) W h1 h2)
    have Nd : Hid (Nu w vd (val 18446744073709551616 ld)) := Nu.mk rd hd hsm
    have Qa := Lib.hid ra
    have Qd := Lib.hid rd
    obtain ⟨D, eD⟩ : ∃ x, val 18446744073709551616 ld = x := ⟨_, rfl⟩
    rw [eD] at Nd
    have D1 : Hid (∀ W v, Nu W v D → Calls Try.prog 17 #[v] W (RwEnd .i64 W (dig 65536 D))) := fun W v h0 => by
      have c := kDg h0
      exact c
    clear ha hd ra rd eD hf hx hsm
    go_enter Try.func6, Try.ntmps6
    go_wp2_with (first
      | (go_at_call 10; (with_reducible refine (shown6_any _).mono ?_); rintro e w1 ⟨rfl, hb'⟩; have G1 := Lib.hid hb'; clear hb')
      | (go_at_call 11; (with_reducible refine (FE.out _ (Qa.out.bl G1.out) (Qd.out.bl G1.out)).mono ?_); rintro e w' ⟨rfl, rfl⟩)
      | (go_at_call 17; (with_reducible refine (D1.out _ _ (Nd.out.bl G1.out)).mono ?_); rintro e w2 ⟨d1, rfl, hr, hb'⟩; have G_1 := Lib.hid (hr); have G2 := Lib.hid hb'; clear hr hb'))
    go_ret
    exact ⟨rfl, (G1.out.trans G2.out)⟩
end Go.Proofs.Ytfmkbeffhdphfaa
