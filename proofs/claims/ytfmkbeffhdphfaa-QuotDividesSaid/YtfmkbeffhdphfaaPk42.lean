/-
  The walk of QuotDivides.
-/
import Derived.Test.YtfmkbeffhdphfaaPk31
import Derived.Test.YtfmkbeffhdphfaaPk34
import Derived.Test.YtfmkbeffhdphfaaPk41
namespace Go.Proofs.Ytfmkbeffhdphfaa
open Go.RowKit
set_option linter.unusedVariables false
set_option linter.unusedSimpArgs false

set_option maxRecDepth 100000 in
set_option maxHeartbeats 8000000 in
theorem quotDivides_walk (va : Value) (la : List Nat) (vd : Value) (ld : List Nat) (x : Nat) (ha : All 18446744073709551616 la) (hd : All 18446744073709551616 ld) (hx : x < 18446744073709551616) (w : World) (ra : Rw .u64 w va la) (rd : Rw .u64 w vd ld) :
    Calls Try.prog 3 #[va, vd, .int .u64 (x : Int)] w fun e w' => e = .returned (.bool true) ∧ Bl w w' := by
  by_cases hf : la.length ≤ 30 ∧ ld.length ≤ 30
  · skip
    have FE := Lib.hid (fun W h1 h2 => few6_yes va vd la ld hf.1 hf.2 W h1 h2)
    have Na : Hid (Nu w va (val 18446744073709551616 la)) := Nu.mk ra ha (by omega)
    have sA := Lib.hid (Sz.of_val ha (k := 30) (by omega))
    have Qa := Lib.hid ra
    obtain ⟨A, eA⟩ : ∃ x, val 18446744073709551616 la = x := ⟨_, rfl⟩
    rw [eA] at Na sA
    have Nd : Hid (Nu w vd (val 18446744073709551616 ld)) := Nu.mk rd hd (by omega)
    have sD := Lib.hid (Sz.of_val hd (k := 30) (by omega))
    have Qd := Lib.hid rd
    obtain ⟨D, eD⟩ : ∃ x, val 18446744073709551616 ld = x := ⟨_, rfl⟩
    rw [eD] at Nd sD
    obtain ⟨z, ez⟩ : ∃ yy, gsN A D = yy := ⟨_, rfl⟩
    have KG : Hid (∀ W v u, Nu W v A → Nu W u D → Calls Try.prog 18 #[v, u] W (fun e w' => e = .returned (.int .u64 (z : Int)) ∧ Bl W w')) := fun W v u h0 h1 => by
      have c := pGuess W v u A D 30 30 h0 h1 sA.out sD.out (by decide) (by decide)
      rw [ez] at c
      exact c
    have RG : Hid (∀ W v u, Nu W v A → Nu W u D → Calls Try.prog 19 #[v, u] W (fun e w' => e = .returned (.int .u64 (z : Int)) ∧ Bl W w')) := fun W v u h0 h1 => by
      have c := r6guess_any W v u A D h0 h1 (sA.out.sd (by decide)) (sD.out.sd (by decide))
      rw [ez] at c
      exact c
    have hxs : Sz 1 x := by unfold Sz; rw [Nat.pow_one]; exact hx
    have HX := Lib.hid hx
    by_cases hD : D = 0
    · subst hD
      by_cases hx0 : x = 0
      · subst hx0
        rw [show ((0 : Nat) : Int) = 0 from rfl]
        have K1 : Hid (∀ W v u, Nu W v A → Nu W u 0 → Calls Try.prog 12 #[v, u] W (RwEnd3 W [] [] 2)) := fun W v u h0 h1 => by
          have c := pDiv0 W v u A h0 h1
          exact c
        have K2 : Hid (∀ W v u, Nu W v A → Nu W u 0 → Calls Try.prog 13 #[v, u] W (RwEnd3 W [] [] 2)) := fun W v u h0 h1 => by
          have c := r6div0_any W v u A h0 h1
          exact c
        have E1 := Lib.hid kSame0
        have E2 := E1
        have K3 : Hid (∀ W v, Nu W v A → Calls Try.prog 14 #[v, .int .u64 0] W (RwEndW W [] 0 2)) := fun W v h0 => by
          have c := pByWord0 W v A h0
          exact c
        have K4 : Hid (∀ W v u, Nu W v A → Nu W u 0 → Calls Try.prog 13 #[v, u] W (RwEnd3 W [] [] 2)) := fun W v u h0 h1 => by
          have c := r6div0_any W v u A h0 h1
          exact c
        have E3 := Lib.hid kSame0
        have E4 := E3
        have D1 : Hid (∀ W v, Nu W v 0 → Calls Try.prog 17 #[v] W (RwEnd .i64 W (dig 65536 0))) := fun W v h0 => by
          have c := kDg h0
          exact c
        have D2 : Hid (∀ W v, De W v 0 → Calls Try.prog 16 #[v] W (RwEnd .u64 W [])) := fun W v h0 => by
          have c := kWords 0 (show Sd 0 from Nat.pow_pos (by decide)) W v h0
          rw [dig_zero] at c
          exact c
        have XL : Hid ((0 : Int) = ((0 : Nat) : Int)) := rfl
        have XB : Hid (0 < 18446744073709551616) := by show 0 < 18446744073709551616; decide
        clear ha hd ra rd eA ez hf hx hxs eD
        go_enter Try.func3, Try.ntmps3
        go_wp2_with (first
          | (go_at_call 10; (with_reducible refine (shown6_any _).mono ?_); rintro e w1 ⟨rfl, hb'⟩; have G1 := Lib.hid hb'; clear hb')
          | (go_at_call 11; (with_reducible refine (FE.out _ (Qa.out.bl G1.out) (Qd.out.bl G1.out)).mono ?_); rintro e w' ⟨rfl, rfl⟩)
          | (go_at_call 12; (with_reducible refine (K1.out _ _ _ (Na.out.bl G1.out) (Nd.out.bl G1.out)).mono ?_); rintro e w2 ⟨q, r, rfl, hr, hs, hb'⟩; have Rq := Lib.hid (hr); have Rr := Lib.hid (hs); have G2 := Lib.hid hb'; clear hr hs hb')
          | (go_at_call 13; (with_reducible refine (K2.out _ _ _ (Na.out.bl (G1.out.trans G2.out)) (Nd.out.bl (G1.out.trans G2.out))).mono ?_); rintro e w3 ⟨p, s, rfl, hr, hs, hb'⟩; have Rp := Lib.hid (hr); have Rs := Lib.hid (hs); have G3 := Lib.hid hb'; clear hr hs hb')
          | (go_at_call 14; (with_reducible refine (K3.out _ _ (Na.out.bl (G1.out.trans (G2.out.trans G3.out)))).mono ?_); rintro e w4 ⟨x1, rfl, hr, hb'⟩; have Rx := Lib.hid (hr); have G4 := Lib.hid hb'; clear hr hb')
          | (go_at_call 13; (with_reducible refine (K4.out _ _ _ (Na.out.bl ((G1.out.trans (G2.out.trans (G3.out.trans G4.out))).alloc _)) (nu_lit (by simp) XL.out XB.out)).mono ?_); rintro e w5 ⟨u1, v1, rfl, hr, hs, hb'⟩; have Ru := Lib.hid (hr); have Rv := Lib.hid (hs); have G5 := Lib.hid (((Bl.refl _).alloc _).trans hb'); clear hr hs hb')
          | (go_at_call 15; (with_reducible refine (E1.out _ _ _ (Rq.out.bl (G3.out.trans (G4.out.trans G5.out))) (Rp.out.bl (G4.out.trans G5.out))).mono ?_); rintro e w6 ⟨rfl, hb'⟩; have G6 := Lib.hid hb'; clear hb')
          | (go_at_call 15; (with_reducible refine (E2.out _ _ _ (Rr.out.bl (G3.out.trans (G4.out.trans (G5.out.trans G6.out)))) (Rs.out.bl (G4.out.trans (G5.out.trans G6.out)))).mono ?_); rintro e w7 ⟨rfl, hb'⟩; have G7 := Lib.hid hb'; clear hb')
          | (go_at_call 15; (with_reducible refine (E3.out _ _ _ (Rx.out.bl (G5.out.trans (G6.out.trans G7.out))) (Ru.out.bl (G6.out.trans G7.out))).mono ?_); rintro e w8 ⟨rfl, hb'⟩; have G8 := Lib.hid hb'; clear hb')
          | (go_at_call 17; (with_reducible refine (D1.out _ _ (nu_lit (by simp) XL.out XB.out)).mono ?_); rintro e w9 ⟨d1, rfl, hr, hb'⟩; have G_1 := Lib.hid (hr); have G9 := Lib.hid (((Bl.refl _).alloc _).trans hb'); clear hr hb')
          | (go_at_call 16; (with_reducible refine (D2.out _ _ G_1.out).mono ?_); rintro e w10 ⟨d2, rfl, hr, hb'⟩; have G_2 := Lib.hid (hr); have G10 := Lib.hid hb'; clear hr hb')
          | (go_at_call 15; (with_reducible refine (E4.out _ _ _ G_2.out (Rv.out.bl (G6.out.trans (G7.out.trans (G8.out.trans (G9.out.trans G10.out)))))).mono ?_); rintro e w11 ⟨rfl, hb'⟩; have G11 := Lib.hid hb'; clear hb')
          | (go_at_call 18; (with_reducible refine (KG.out _ _ _ (Na.out.bl (G1.out.trans (G2.out.trans (G3.out.trans (G4.out.trans (G5.out.trans (G6.out.trans (G7.out.trans (G8.out.trans (G9.out.trans (G10.out.trans G11.out))))))))))) (Nd.out.bl (G1.out.trans (G2.out.trans (G3.out.trans (G4.out.trans (G5.out.trans (G6.out.trans (G7.out.trans (G8.out.trans (G9.out.trans (G10.out.trans G11.out)))))))))))).mono ?_); rintro e w12 ⟨rfl, hb'⟩; have G12 := Lib.hid hb'; clear hb')
          | (go_at_call 19; (with_reducible refine (RG.out _ _ _ (Na.out.bl (G1.out.trans (G2.out.trans (G3.out.trans (G4.out.trans (G5.out.trans (G6.out.trans (G7.out.trans (G8.out.trans (G9.out.trans (G10.out.trans (G11.out.trans G12.out)))))))))))) (Nd.out.bl (G1.out.trans (G2.out.trans (G3.out.trans (G4.out.trans (G5.out.trans (G6.out.trans (G7.out.trans (G8.out.trans (G9.out.trans (G10.out.trans (G11.out.trans G12.out))))))))))))).mono ?_); rintro e w13 ⟨rfl, hb'⟩; have G13 := Lib.hid hb'; clear hb'))
        go_ret
        exact ⟨rfl, (G1.out.trans (G2.out.trans (G3.out.trans (G4.out.trans (G5.out.trans (G6.out.trans (G7.out.trans (G8.out.trans (G9.out.trans (G10.out.trans (G11.out.trans (G12.out.trans G13.out))))))))))))⟩
      · skip
        have K1 : Hid (∀ W v u, Nu W v A → Nu W u 0 → Calls Try.prog 12 #[v, u] W (RwEnd3 W [] [] 2)) := fun W v u h0 h1 => by
          have c := pDiv0 W v u A h0 h1
          exact c
        have K2 : Hid (∀ W v u, Nu W v A → Nu W u 0 → Calls Try.prog 13 #[v, u] W (RwEnd3 W [] [] 2)) := fun W v u h0 h1 => by
          have c := r6div0_any W v u A h0 h1
          exact c
        have E1 := Lib.hid kSame0
        have E2 := E1
        have hpx : 0 < x := Nat.pos_of_ne_zero hx0
        have sx := Lib.hid hxs
        obtain ⟨T, eT⟩ : ∃ yy, A / x = yy := ⟨_, rfl⟩
        have sT : Hid (Sz 30 T) := (by rw [← eT]; exact sA.out.le (Nat.div_le_self _ _))
        obtain ⟨U, eU⟩ : ∃ yy, A % x = yy := ⟨_, rfl⟩
        have sU : Hid (Sz 30 U) := (by rw [← eU]; exact sA.out.le (Nat.mod_le _ _))
        have hUx : U < 18446744073709551616 := by rw [← eU]; exact Nat.lt_trans (Nat.mod_lt _ hpx) hx
        have UB := Lib.hid hUx
        have K3 : Hid (∀ W v, Nu W v A → Calls Try.prog 14 #[v, .int .u64 (x : Int)] W (RwEndW W (dig 18446744073709551616 T) U 0)) := fun W v h0 => by
          have c := pByWord W v A x h0 hpx hx
          rw [eT, eU] at c
          exact c
        have K4 : Hid (∀ W v u, Nu W v A → Nu W u x → Calls Try.prog 13 #[v, u] W (RwEnd3 W (dig 18446744073709551616 T) (dig 18446744073709551616 U) 0)) := fun W v u h0 h1 => by
          have c := r6div_any W v u A x h0 h1 (sA.out.sd (by decide)) (sx.out.sd (by decide)) hpx
          rw [eT, eU] at c
          exact c
        have E3 := Lib.hid (kSame T (sT.out.sd (by decide)))
        have E4 := Lib.hid (kSame U (sU.out.sd (by decide)))
        have D1 : Hid (∀ W v, Nu W v U → Calls Try.prog 17 #[v] W (RwEnd .i64 W (dig 65536 U))) := fun W v h0 => by
          have c := kDg h0
          exact c
        have D2 : Hid (∀ W v, De W v U → Calls Try.prog 16 #[v] W (RwEnd .u64 W (dig 18446744073709551616 U))) := fun W v h0 => by
          have c := kWords U (sU.out.sd (by decide)) W v h0
          exact c
        clear ha hd ra rd eA ez hf hx hxs eD eT eU hpx hx0 hUx
        go_enter Try.func3, Try.ntmps3
        go_wp2_with (first
          | (go_at_call 10; (with_reducible refine (shown6_any _).mono ?_); rintro e w1 ⟨rfl, hb'⟩; have G1 := Lib.hid hb'; clear hb')
          | (go_at_call 11; (with_reducible refine (FE.out _ (Qa.out.bl G1.out) (Qd.out.bl G1.out)).mono ?_); rintro e w' ⟨rfl, rfl⟩)
          | (go_at_call 12; (with_reducible refine (K1.out _ _ _ (Na.out.bl G1.out) (Nd.out.bl G1.out)).mono ?_); rintro e w2 ⟨q, r, rfl, hr, hs, hb'⟩; have Rq := Lib.hid (hr); have Rr := Lib.hid (hs); have G2 := Lib.hid hb'; clear hr hs hb')
          | (go_at_call 13; (with_reducible refine (K2.out _ _ _ (Na.out.bl (G1.out.trans G2.out)) (Nd.out.bl (G1.out.trans G2.out))).mono ?_); rintro e w3 ⟨p, s, rfl, hr, hs, hb'⟩; have Rp := Lib.hid (hr); have Rs := Lib.hid (hs); have G3 := Lib.hid hb'; clear hr hs hb')
          | (go_at_call 14; (with_reducible refine (K3.out _ _ (Na.out.bl (G1.out.trans (G2.out.trans G3.out)))).mono ?_); rintro e w4 ⟨x1, rfl, hr, hb'⟩; have Rx := Lib.hid (hr); have G4 := Lib.hid hb'; clear hr hb')
          | (go_at_call 13; (with_reducible refine (K4.out _ _ _ (Na.out.bl ((G1.out.trans (G2.out.trans (G3.out.trans G4.out))).alloc _)) (nu_lit (by simp) rfl HX.out)).mono ?_); rintro e w5 ⟨u1, v1, rfl, hr, hs, hb'⟩; have Ru := Lib.hid (hr); have Rv := Lib.hid (hs); have G5 := Lib.hid (((Bl.refl _).alloc _).trans hb'); clear hr hs hb')
          | (go_at_call 15; (with_reducible refine (E1.out _ _ _ (Rq.out.bl (G3.out.trans (G4.out.trans G5.out))) (Rp.out.bl (G4.out.trans G5.out))).mono ?_); rintro e w6 ⟨rfl, hb'⟩; have G6 := Lib.hid hb'; clear hb')
          | (go_at_call 15; (with_reducible refine (E2.out _ _ _ (Rr.out.bl (G3.out.trans (G4.out.trans (G5.out.trans G6.out)))) (Rs.out.bl (G4.out.trans (G5.out.trans G6.out)))).mono ?_); rintro e w7 ⟨rfl, hb'⟩; have G7 := Lib.hid hb'; clear hb')
          | (go_at_call 15; (with_reducible refine (E3.out _ _ _ (Rx.out.bl (G5.out.trans (G6.out.trans G7.out))) (Ru.out.bl (G6.out.trans G7.out))).mono ?_); rintro e w8 ⟨rfl, hb'⟩; have G8 := Lib.hid hb'; clear hb')
          | (go_at_call 17; (with_reducible refine (D1.out _ _ (nu_lit (by simp) rfl UB.out)).mono ?_); rintro e w9 ⟨d1, rfl, hr, hb'⟩; have G_1 := Lib.hid (hr); have G9 := Lib.hid (((Bl.refl _).alloc _).trans hb'); clear hr hb')
          | (go_at_call 16; (with_reducible refine (D2.out _ _ G_1.out).mono ?_); rintro e w10 ⟨d2, rfl, hr, hb'⟩; have G_2 := Lib.hid (hr); have G10 := Lib.hid hb'; clear hr hb')
          | (go_at_call 15; (with_reducible refine (E4.out _ _ _ G_2.out (Rv.out.bl (G6.out.trans (G7.out.trans (G8.out.trans (G9.out.trans G10.out)))))).mono ?_); rintro e w11 ⟨rfl, hb'⟩; have G11 := Lib.hid hb'; clear hb')
          | (go_at_call 18; (with_reducible refine (KG.out _ _ _ (Na.out.bl (G1.out.trans (G2.out.trans (G3.out.trans (G4.out.trans (G5.out.trans (G6.out.trans (G7.out.trans (G8.out.trans (G9.out.trans (G10.out.trans G11.out))))))))))) (Nd.out.bl (G1.out.trans (G2.out.trans (G3.out.trans (G4.out.trans (G5.out.trans (G6.out.trans (G7.out.trans (G8.out.trans (G9.out.trans (G10.out.trans G11.out)))))))))))).mono ?_); rintro e w12 ⟨rfl, hb'⟩; have G12 := Lib.hid hb'; clear hb')
          | (go_at_call 19; (with_reducible refine (RG.out _ _ _ (Na.out.bl (G1.out.trans (G2.out.trans (G3.out.trans (G4.out.trans (G5.out.trans (G6.out.trans (G7.out.trans (G8.out.trans (G9.out.trans (G10.out.trans (G11.out.trans G12.out)))))))))))) (Nd.out.bl (G1.out.trans (G2.out.trans (G3.out.trans (G4.out.trans (G5.out.trans (G6.out.trans (G7.out.trans (G8.out.trans (G9.out.trans (G10.out.trans (G11.out.trans G12.out))))))))))))).mono ?_); rintro e w13 ⟨rfl, hb'⟩; have G13 := Lib.hid hb'; clear hb'))
        go_ret
        exact ⟨rfl, (G1.out.trans (G2.out.trans (G3.out.trans (G4.out.trans (G5.out.trans (G6.out.trans (G7.out.trans (G8.out.trans (G9.out.trans (G10.out.trans (G11.out.trans (G12.out.trans G13.out))))))))))))⟩
    · by_cases hx0 : x = 0
      · subst hx0
        rw [show ((0 : Nat) : Int) = 0 from rfl]
        have hpD : 0 < D := Nat.pos_of_ne_zero hD
        obtain ⟨Q, eQ⟩ : ∃ yy, A / D = yy := ⟨_, rfl⟩
        have sQ : Hid (Sz 30 Q) := (by rw [← eQ]; exact sA.out.le (Nat.div_le_self _ _))
        obtain ⟨R, eR⟩ : ∃ yy, A % D = yy := ⟨_, rfl⟩
        have sR : Hid (Sz 30 R) := (by rw [← eR]; exact sA.out.le (Nat.mod_le _ _))
        have K1 : Hid (∀ W v u, Nu W v A → Nu W u D → Calls Try.prog 12 #[v, u] W (RwEnd3 W (dig 18446744073709551616 Q) (dig 18446744073709551616 R) 0)) := fun W v u h0 h1 => by
          have c := pDiv W v u A D 30 30 h0 h1 hpD sA.out sD.out (by decide) (by decide)
          rw [eQ, eR] at c
          exact c
        have K2 : Hid (∀ W v u, Nu W v A → Nu W u D → Calls Try.prog 13 #[v, u] W (RwEnd3 W (dig 18446744073709551616 Q) (dig 18446744073709551616 R) 0)) := fun W v u h0 h1 => by
          have c := r6div_any W v u A D h0 h1 (sA.out.sd (by decide)) (sD.out.sd (by decide)) hpD
          rw [eQ, eR] at c
          exact c
        have E1 := Lib.hid (kSame Q (sQ.out.sd (by decide)))
        have E2 := Lib.hid (kSame R (sR.out.sd (by decide)))
        have K3 : Hid (∀ W v, Nu W v A → Calls Try.prog 14 #[v, .int .u64 0] W (RwEndW W [] 0 2)) := fun W v h0 => by
          have c := pByWord0 W v A h0
          exact c
        have K4 : Hid (∀ W v u, Nu W v A → Nu W u 0 → Calls Try.prog 13 #[v, u] W (RwEnd3 W [] [] 2)) := fun W v u h0 h1 => by
          have c := r6div0_any W v u A h0 h1
          exact c
        have E3 := Lib.hid kSame0
        have E4 := E3
        have D1 : Hid (∀ W v, Nu W v 0 → Calls Try.prog 17 #[v] W (RwEnd .i64 W (dig 65536 0))) := fun W v h0 => by
          have c := kDg h0
          exact c
        have D2 : Hid (∀ W v, De W v 0 → Calls Try.prog 16 #[v] W (RwEnd .u64 W [])) := fun W v h0 => by
          have c := kWords 0 (show Sd 0 from Nat.pow_pos (by decide)) W v h0
          rw [dig_zero] at c
          exact c
        have XL : Hid ((0 : Int) = ((0 : Nat) : Int)) := rfl
        have XB : Hid (0 < 18446744073709551616) := by show 0 < 18446744073709551616; decide
        clear ha hd ra rd eA ez hf hx hxs eD eQ eR hD hpD
        go_enter Try.func3, Try.ntmps3
        go_wp2_with (first
          | (go_at_call 10; (with_reducible refine (shown6_any _).mono ?_); rintro e w1 ⟨rfl, hb'⟩; have G1 := Lib.hid hb'; clear hb')
          | (go_at_call 11; (with_reducible refine (FE.out _ (Qa.out.bl G1.out) (Qd.out.bl G1.out)).mono ?_); rintro e w' ⟨rfl, rfl⟩)
          | (go_at_call 12; (with_reducible refine (K1.out _ _ _ (Na.out.bl G1.out) (Nd.out.bl G1.out)).mono ?_); rintro e w2 ⟨q, r, rfl, hr, hs, hb'⟩; have Rq := Lib.hid (hr); have Rr := Lib.hid (hs); have G2 := Lib.hid hb'; clear hr hs hb')
          | (go_at_call 13; (with_reducible refine (K2.out _ _ _ (Na.out.bl (G1.out.trans G2.out)) (Nd.out.bl (G1.out.trans G2.out))).mono ?_); rintro e w3 ⟨p, s, rfl, hr, hs, hb'⟩; have Rp := Lib.hid (hr); have Rs := Lib.hid (hs); have G3 := Lib.hid hb'; clear hr hs hb')
          | (go_at_call 14; (with_reducible refine (K3.out _ _ (Na.out.bl (G1.out.trans (G2.out.trans G3.out)))).mono ?_); rintro e w4 ⟨x1, rfl, hr, hb'⟩; have Rx := Lib.hid (hr); have G4 := Lib.hid hb'; clear hr hb')
          | (go_at_call 13; (with_reducible refine (K4.out _ _ _ (Na.out.bl ((G1.out.trans (G2.out.trans (G3.out.trans G4.out))).alloc _)) (nu_lit (by simp) XL.out XB.out)).mono ?_); rintro e w5 ⟨u1, v1, rfl, hr, hs, hb'⟩; have Ru := Lib.hid (hr); have Rv := Lib.hid (hs); have G5 := Lib.hid (((Bl.refl _).alloc _).trans hb'); clear hr hs hb')
          | (go_at_call 15; (with_reducible refine (E1.out _ _ _ (Rq.out.bl (G3.out.trans (G4.out.trans G5.out))) (Rp.out.bl (G4.out.trans G5.out))).mono ?_); rintro e w6 ⟨rfl, hb'⟩; have G6 := Lib.hid hb'; clear hb')
          | (go_at_call 15; (with_reducible refine (E2.out _ _ _ (Rr.out.bl (G3.out.trans (G4.out.trans (G5.out.trans G6.out)))) (Rs.out.bl (G4.out.trans (G5.out.trans G6.out)))).mono ?_); rintro e w7 ⟨rfl, hb'⟩; have G7 := Lib.hid hb'; clear hb')
          | (go_at_call 15; (with_reducible refine (E3.out _ _ _ (Rx.out.bl (G5.out.trans (G6.out.trans G7.out))) (Ru.out.bl (G6.out.trans G7.out))).mono ?_); rintro e w8 ⟨rfl, hb'⟩; have G8 := Lib.hid hb'; clear hb')
          | (go_at_call 17; (with_reducible refine (D1.out _ _ (nu_lit (by simp) XL.out XB.out)).mono ?_); rintro e w9 ⟨d1, rfl, hr, hb'⟩; have G_1 := Lib.hid (hr); have G9 := Lib.hid (((Bl.refl _).alloc _).trans hb'); clear hr hb')
          | (go_at_call 16; (with_reducible refine (D2.out _ _ G_1.out).mono ?_); rintro e w10 ⟨d2, rfl, hr, hb'⟩; have G_2 := Lib.hid (hr); have G10 := Lib.hid hb'; clear hr hb')
          | (go_at_call 15; (with_reducible refine (E4.out _ _ _ G_2.out (Rv.out.bl (G6.out.trans (G7.out.trans (G8.out.trans (G9.out.trans G10.out)))))).mono ?_); rintro e w11 ⟨rfl, hb'⟩; have G11 := Lib.hid hb'; clear hb')
          | (go_at_call 18; (with_reducible refine (KG.out _ _ _ (Na.out.bl (G1.out.trans (G2.out.trans (G3.out.trans (G4.out.trans (G5.out.trans (G6.out.trans (G7.out.trans (G8.out.trans (G9.out.trans (G10.out.trans G11.out))))))))))) (Nd.out.bl (G1.out.trans (G2.out.trans (G3.out.trans (G4.out.trans (G5.out.trans (G6.out.trans (G7.out.trans (G8.out.trans (G9.out.trans (G10.out.trans G11.out)))))))))))).mono ?_); rintro e w12 ⟨rfl, hb'⟩; have G12 := Lib.hid hb'; clear hb')
          | (go_at_call 19; (with_reducible refine (RG.out _ _ _ (Na.out.bl (G1.out.trans (G2.out.trans (G3.out.trans (G4.out.trans (G5.out.trans (G6.out.trans (G7.out.trans (G8.out.trans (G9.out.trans (G10.out.trans (G11.out.trans G12.out)))))))))))) (Nd.out.bl (G1.out.trans (G2.out.trans (G3.out.trans (G4.out.trans (G5.out.trans (G6.out.trans (G7.out.trans (G8.out.trans (G9.out.trans (G10.out.trans (G11.out.trans G12.out))))))))))))).mono ?_); rintro e w13 ⟨rfl, hb'⟩; have G13 := Lib.hid hb'; clear hb'))
        go_ret
        exact ⟨rfl, (G1.out.trans (G2.out.trans (G3.out.trans (G4.out.trans (G5.out.trans (G6.out.trans (G7.out.trans (G8.out.trans (G9.out.trans (G10.out.trans (G11.out.trans (G12.out.trans G13.out))))))))))))⟩
      · skip
        have hpD : 0 < D := Nat.pos_of_ne_zero hD
        obtain ⟨Q, eQ⟩ : ∃ yy, A / D = yy := ⟨_, rfl⟩
        have sQ : Hid (Sz 30 Q) := (by rw [← eQ]; exact sA.out.le (Nat.div_le_self _ _))
        obtain ⟨R, eR⟩ : ∃ yy, A % D = yy := ⟨_, rfl⟩
        have sR : Hid (Sz 30 R) := (by rw [← eR]; exact sA.out.le (Nat.mod_le _ _))
        have K1 : Hid (∀ W v u, Nu W v A → Nu W u D → Calls Try.prog 12 #[v, u] W (RwEnd3 W (dig 18446744073709551616 Q) (dig 18446744073709551616 R) 0)) := fun W v u h0 h1 => by
          have c := pDiv W v u A D 30 30 h0 h1 hpD sA.out sD.out (by decide) (by decide)
          rw [eQ, eR] at c
          exact c
        have K2 : Hid (∀ W v u, Nu W v A → Nu W u D → Calls Try.prog 13 #[v, u] W (RwEnd3 W (dig 18446744073709551616 Q) (dig 18446744073709551616 R) 0)) := fun W v u h0 h1 => by
          have c := r6div_any W v u A D h0 h1 (sA.out.sd (by decide)) (sD.out.sd (by decide)) hpD
          rw [eQ, eR] at c
          exact c
        have E1 := Lib.hid (kSame Q (sQ.out.sd (by decide)))
        have E2 := Lib.hid (kSame R (sR.out.sd (by decide)))
        have hpx : 0 < x := Nat.pos_of_ne_zero hx0
        have sx := Lib.hid hxs
        obtain ⟨T, eT⟩ : ∃ yy, A / x = yy := ⟨_, rfl⟩
        have sT : Hid (Sz 30 T) := (by rw [← eT]; exact sA.out.le (Nat.div_le_self _ _))
        obtain ⟨U, eU⟩ : ∃ yy, A % x = yy := ⟨_, rfl⟩
        have sU : Hid (Sz 30 U) := (by rw [← eU]; exact sA.out.le (Nat.mod_le _ _))
        have hUx : U < 18446744073709551616 := by rw [← eU]; exact Nat.lt_trans (Nat.mod_lt _ hpx) hx
        have UB := Lib.hid hUx
        have K3 : Hid (∀ W v, Nu W v A → Calls Try.prog 14 #[v, .int .u64 (x : Int)] W (RwEndW W (dig 18446744073709551616 T) U 0)) := fun W v h0 => by
          have c := pByWord W v A x h0 hpx hx
          rw [eT, eU] at c
          exact c
        have K4 : Hid (∀ W v u, Nu W v A → Nu W u x → Calls Try.prog 13 #[v, u] W (RwEnd3 W (dig 18446744073709551616 T) (dig 18446744073709551616 U) 0)) := fun W v u h0 h1 => by
          have c := r6div_any W v u A x h0 h1 (sA.out.sd (by decide)) (sx.out.sd (by decide)) hpx
          rw [eT, eU] at c
          exact c
        have E3 := Lib.hid (kSame T (sT.out.sd (by decide)))
        have E4 := Lib.hid (kSame U (sU.out.sd (by decide)))
        have D1 : Hid (∀ W v, Nu W v U → Calls Try.prog 17 #[v] W (RwEnd .i64 W (dig 65536 U))) := fun W v h0 => by
          have c := kDg h0
          exact c
        have D2 : Hid (∀ W v, De W v U → Calls Try.prog 16 #[v] W (RwEnd .u64 W (dig 18446744073709551616 U))) := fun W v h0 => by
          have c := kWords U (sU.out.sd (by decide)) W v h0
          exact c
        clear ha hd ra rd eA ez hf hx hxs eD eQ eR hD hpD eT eU hpx hx0 hUx
        go_enter Try.func3, Try.ntmps3
        go_wp2_with (first
          | (go_at_call 10; (with_reducible refine (shown6_any _).mono ?_); rintro e w1 ⟨rfl, hb'⟩; have G1 := Lib.hid hb'; clear hb')
          | (go_at_call 11; (with_reducible refine (FE.out _ (Qa.out.bl G1.out) (Qd.out.bl G1.out)).mono ?_); rintro e w' ⟨rfl, rfl⟩)
          | (go_at_call 12; (with_reducible refine (K1.out _ _ _ (Na.out.bl G1.out) (Nd.out.bl G1.out)).mono ?_); rintro e w2 ⟨q, r, rfl, hr, hs, hb'⟩; have Rq := Lib.hid (hr); have Rr := Lib.hid (hs); have G2 := Lib.hid hb'; clear hr hs hb')
          | (go_at_call 13; (with_reducible refine (K2.out _ _ _ (Na.out.bl (G1.out.trans G2.out)) (Nd.out.bl (G1.out.trans G2.out))).mono ?_); rintro e w3 ⟨p, s, rfl, hr, hs, hb'⟩; have Rp := Lib.hid (hr); have Rs := Lib.hid (hs); have G3 := Lib.hid hb'; clear hr hs hb')
          | (go_at_call 14; (with_reducible refine (K3.out _ _ (Na.out.bl (G1.out.trans (G2.out.trans G3.out)))).mono ?_); rintro e w4 ⟨x1, rfl, hr, hb'⟩; have Rx := Lib.hid (hr); have G4 := Lib.hid hb'; clear hr hb')
          | (go_at_call 13; (with_reducible refine (K4.out _ _ _ (Na.out.bl ((G1.out.trans (G2.out.trans (G3.out.trans G4.out))).alloc _)) (nu_lit (by simp) rfl HX.out)).mono ?_); rintro e w5 ⟨u1, v1, rfl, hr, hs, hb'⟩; have Ru := Lib.hid (hr); have Rv := Lib.hid (hs); have G5 := Lib.hid (((Bl.refl _).alloc _).trans hb'); clear hr hs hb')
          | (go_at_call 15; (with_reducible refine (E1.out _ _ _ (Rq.out.bl (G3.out.trans (G4.out.trans G5.out))) (Rp.out.bl (G4.out.trans G5.out))).mono ?_); rintro e w6 ⟨rfl, hb'⟩; have G6 := Lib.hid hb'; clear hb')
          | (go_at_call 15; (with_reducible refine (E2.out _ _ _ (Rr.out.bl (G3.out.trans (G4.out.trans (G5.out.trans G6.out)))) (Rs.out.bl (G4.out.trans (G5.out.trans G6.out)))).mono ?_); rintro e w7 ⟨rfl, hb'⟩; have G7 := Lib.hid hb'; clear hb')
          | (go_at_call 15; (with_reducible refine (E3.out _ _ _ (Rx.out.bl (G5.out.trans (G6.out.trans G7.out))) (Ru.out.bl (G6.out.trans G7.out))).mono ?_); rintro e w8 ⟨rfl, hb'⟩; have G8 := Lib.hid hb'; clear hb')
          | (go_at_call 17; (with_reducible refine (D1.out _ _ (nu_lit (by simp) rfl UB.out)).mono ?_); rintro e w9 ⟨d1, rfl, hr, hb'⟩; have G_1 := Lib.hid (hr); have G9 := Lib.hid (((Bl.refl _).alloc _).trans hb'); clear hr hb')
          | (go_at_call 16; (with_reducible refine (D2.out _ _ G_1.out).mono ?_); rintro e w10 ⟨d2, rfl, hr, hb'⟩; have G_2 := Lib.hid (hr); have G10 := Lib.hid hb'; clear hr hb')
          | (go_at_call 15; (with_reducible refine (E4.out _ _ _ G_2.out (Rv.out.bl (G6.out.trans (G7.out.trans (G8.out.trans (G9.out.trans G10.out)))))).mono ?_); rintro e w11 ⟨rfl, hb'⟩; have G11 := Lib.hid hb'; clear hb')
          | (go_at_call 18; (with_reducible refine (KG.out _ _ _ (Na.out.bl (G1.out.trans (G2.out.trans (G3.out.trans (G4.out.trans (G5.out.trans (G6.out.trans (G7.out.trans (G8.out.trans (G9.out.trans (G10.out.trans G11.out))))))))))) (Nd.out.bl (G1.out.trans (G2.out.trans (G3.out.trans (G4.out.trans (G5.out.trans (G6.out.trans (G7.out.trans (G8.out.trans (G9.out.trans (G10.out.trans G11.out)))))))))))).mono ?_); rintro e w12 ⟨rfl, hb'⟩; have G12 := Lib.hid hb'; clear hb')
          | (go_at_call 19; (with_reducible refine (RG.out _ _ _ (Na.out.bl (G1.out.trans (G2.out.trans (G3.out.trans (G4.out.trans (G5.out.trans (G6.out.trans (G7.out.trans (G8.out.trans (G9.out.trans (G10.out.trans (G11.out.trans G12.out)))))))))))) (Nd.out.bl (G1.out.trans (G2.out.trans (G3.out.trans (G4.out.trans (G5.out.trans (G6.out.trans (G7.out.trans (G8.out.trans (G9.out.trans (G10.out.trans (G11.out.trans G12.out))))))))))))).mono ?_); rintro e w13 ⟨rfl, hb'⟩; have G13 := Lib.hid hb'; clear hb'))
        go_ret
        exact ⟨rfl, (G1.out.trans (G2.out.trans (G3.out.trans (G4.out.trans (G5.out.trans (G6.out.trans (G7.out.trans (G8.out.trans (G9.out.trans (G10.out.trans (G11.out.trans (G12.out.trans G13.out))))))))))))⟩
  · skip
    have FE := Lib.hid (fun W h1 h2 => few6_no va vd la ld hf (rw_len ra) (rw_len rd) W h1 h2)
    have Qa := Lib.hid ra
    have Qd := Lib.hid rd
    clear ha hd ra rd hf hx
    go_enter Try.func3, Try.ntmps3
    go_wp2_with (first
      | (go_at_call 10; (with_reducible refine (shown6_any _).mono ?_); rintro e w1 ⟨rfl, hb'⟩; have G1 := Lib.hid hb'; clear hb')
      | (go_at_call 11; (with_reducible refine (FE.out _ (Qa.out.bl G1.out) (Qd.out.bl G1.out)).mono ?_); rintro e w' ⟨rfl, rfl⟩))
    go_ret
    exact ⟨rfl, G1.out⟩
end Go.Proofs.Ytfmkbeffhdphfaa
