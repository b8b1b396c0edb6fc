/-
  The walk of ProdLaws.
-/
import Derived.Test.YteoeaogfeblokaaProdS
namespace Go.Proofs.Yteoeaogfeblokaa
open Go.RowKit
set_option linter.unusedVariables false
set_option linter.unusedSimpArgs false

set_option maxRecDepth 100000 in
set_option maxHeartbeats 8000000 in
theorem prodLaws_walk (va : Value) (la : List Nat) (vb : Value) (lb : List Nat) (vc : Value) (lc : List Nat) (ha : All 18446744073709551616 la) (hb : All 18446744073709551616 lb) (hc : All 18446744073709551616 lc) (w : World) (ra : Rw .u64 w va la) (rb : Rw .u64 w vb lb) (rc : Rw .u64 w vc lc) :
    Calls Try.prog 5 #[va, vb, vc] w fun e w' => e = .returned (.bool true) ∧ Bl w w' := by
  by_cases hf : la.length ≤ 40 ∧ lb.length ≤ 40
  · by_cases hg : lc.length ≤ 40
    · skip
      have FE := Lib.hid (fun W h1 h2 => few5_yes va vb la lb hf.1 hf.2 W h1 h2)
      have FC := Lib.hid (fun W h1 h2 => few5_yes vc (.slice none 0 0) lc [] hg (by simp) W h1 h2)
      have Na : Hid (Nu w va (val 18446744073709551616 la)) := Nu.mk ra ha (by omega)
      have sa := Lib.hid (Sz.of_val ha (k := 40) (by omega))
      have Qa := Lib.hid ra
      obtain ⟨A, eA⟩ : ∃ x, val 18446744073709551616 la = x := ⟨_, rfl⟩
      rw [eA] at Na sa
      have Nb : Hid (Nu w vb (val 18446744073709551616 lb)) := Nu.mk rb hb (by omega)
      have sb := Lib.hid (Sz.of_val hb (k := 40) (by omega))
      have Qb := Lib.hid rb
      obtain ⟨B, eB⟩ : ∃ x, val 18446744073709551616 lb = x := ⟨_, rfl⟩
      rw [eB] at Nb sb
      have Nc : Hid (Nu w vc (val 18446744073709551616 lc)) := Nu.mk rc hc (by omega)
      have sc := Lib.hid (Sz.of_val hc (k := 40) (by omega))
      have Qc := Lib.hid rc
      obtain ⟨C, eC⟩ : ∃ x, val 18446744073709551616 lc = x := ⟨_, rfl⟩
      rw [eC] at Nc sc
      have sA := sa
      have sB := sb
      have sC := sc
      obtain ⟨S, eS⟩ : ∃ x, B + C = x := ⟨_, rfl⟩
      have sS : Hid (Sz 41 S) := (by rw [← eS]; exact sb.out.add sc.out)
      obtain ⟨X, eX⟩ : ∃ x, A * S = x := ⟨_, rfl⟩
      have sX : Hid (Sz 81 X) := (by rw [← eX]; exact szmul sa.out sS.out)
      obtain ⟨P, eP⟩ : ∃ x, A * B = x := ⟨_, rfl⟩
      have sP : Hid (Sz 80 P) := (by rw [← eP]; exact szmul sa.out sb.out)
      obtain ⟨Q, eQ⟩ : ∃ x, A * C = x := ⟨_, rfl⟩
      have sQ : Hid (Sz 80 Q) := (by rw [← eQ]; exact szmul sa.out sc.out)
      obtain ⟨T, eT⟩ : ∃ x, B * C = x := ⟨_, rfl⟩
      have sT : Hid (Sz 80 T) := (by rw [← eT]; exact szmul sb.out sc.out)
      obtain ⟨Z, eZ⟩ : ∃ x, P * C = x := ⟨_, rfl⟩
      have sZ : Hid (Sz 120 Z) := (by rw [← eZ]; exact szmul sP.out sc.out)
      have eX2 : P + Q = X := by rw [← eP, ← eQ, ← eX, ← eS, Nat.mul_add]
      have eP2 : B * A = P := by rw [← eP]; exact Nat.mul_comm _ _
      have eZ2 : A * T = Z := by rw [← eZ, ← eP, ← eT, Nat.mul_assoc]
      have D1 : Hid (∀ W v, Nu W v B → Calls Try.prog 23 #[v] W (RwEnd .i64 W (dig 65536 B))) := fun W v h0 => by
        have c := kDg h0
        exact c
      have D2 : Hid (∀ W v, Nu W v C → Calls Try.prog 23 #[v] W (RwEnd .i64 W (dig 65536 C))) := fun W v h0 => by
        have c := kDg h0
        exact c
      have D3 : Hid (∀ W v u, De W v B → De W u C → Calls Try.prog 22 #[v, u] W (RwEnd .i64 W (dig 65536 S))) := fun W v u h0 h1 => by
        have c := kAdd B C (sB.out.sd (by decide)) (sC.out.sd (by decide)) W v u h0 h1
        rw [eS] at c
        exact c
      have D4 : Hid (∀ W v, De W v S → Calls Try.prog 21 #[v] W (RwEnd .u64 W (dig 18446744073709551616 S))) := fun W v h0 => by
        have c := kWords S (sS.out.sd (by decide)) W v h0
        exact c
      have K1 : Hid (∀ W v u, Nu W v A → Nu W u S → Calls Try.prog 14 #[v, u] W (RwEnd .u64 W (dig 18446744073709551616 X))) := fun W v u h0 h1 => by
        have c := pSchool W v u A S 40 41 h0 h1 sA.out sS.out (by decide)
        rw [eX] at c
        exact c
      have K2 : Hid (∀ W v u, Nu W v A → Nu W u B → Calls Try.prog 14 #[v, u] W (RwEnd .u64 W (dig 18446744073709551616 P))) := fun W v u h0 h1 => by
        have c := pSchool W v u A B 40 40 h0 h1 sA.out sB.out (by decide)
        rw [eP] at c
        exact c
      have D5 : Hid (∀ W v, Nu W v P → Calls Try.prog 23 #[v] W (RwEnd .i64 W (dig 65536 P))) := fun W v h0 => by
        have c := kDg h0
        exact c
      have K3 : Hid (∀ W v u, Nu W v A → Nu W u C → Calls Try.prog 14 #[v, u] W (RwEnd .u64 W (dig 18446744073709551616 Q))) := fun W v u h0 h1 => by
        have c := pSchool W v u A C 40 40 h0 h1 sA.out sC.out (by decide)
        rw [eQ] at c
        exact c
      have D6 : Hid (∀ W v, Nu W v Q → Calls Try.prog 23 #[v] W (RwEnd .i64 W (dig 65536 Q))) := fun W v h0 => by
        have c := kDg h0
        exact c
      have D7 : Hid (∀ W v u, De W v P → De W u Q → Calls Try.prog 22 #[v, u] W (RwEnd .i64 W (dig 65536 X))) := fun W v u h0 h1 => by
        have c := kAdd P Q (sP.out.sd (by decide)) (sQ.out.sd (by decide)) W v u h0 h1
        rw [eX2] at c
        exact c
      have D8 : Hid (∀ W v, De W v X → Calls Try.prog 21 #[v] W (RwEnd .u64 W (dig 18446744073709551616 X))) := fun W v h0 => by
        have c := kWords X (sX.out.sd (by decide)) W v h0
        exact c
      have E1 := Lib.hid (kSame X (sX.out.sd (by decide)))
      have K4 : Hid (∀ W v u, Nu W v B → Nu W u A → Calls Try.prog 14 #[v, u] W (RwEnd .u64 W (dig 18446744073709551616 P))) := fun W v u h0 h1 => by
        have c := pSchool W v u B A 40 40 h0 h1 sB.out sA.out (by decide)
        rw [eP2] at c
        exact c
      have E2 := Lib.hid (kSame P (sP.out.sd (by decide)))
      have K5 : Hid (∀ W v u, Nu W v P → Nu W u C → Calls Try.prog 14 #[v, u] W (RwEnd .u64 W (dig 18446744073709551616 Z))) := fun W v u h0 h1 => by
        have c := pSchool W v u P C 80 40 h0 h1 sP.out sC.out (by decide)
        rw [eZ] at c
        exact c
      have K6 : Hid (∀ W v u, Nu W v B → Nu W u C → Calls Try.prog 14 #[v, u] W (RwEnd .u64 W (dig 18446744073709551616 T))) := fun W v u h0 h1 => by
        have c := pSchool W v u B C 40 40 h0 h1 sB.out sC.out (by decide)
        rw [eT] at c
        exact c
      have K7 : Hid (∀ W v u, Nu W v A → Nu W u T → Calls Try.prog 14 #[v, u] W (RwEnd .u64 W (dig 18446744073709551616 Z))) := fun W v u h0 h1 => by
        have c := pSchool W v u A T 40 80 h0 h1 sA.out sT.out (by decide)
        rw [eZ2] at c
        exact c
      have E3 := Lib.hid (kSame Z (sZ.out.sd (by decide)))
      clear ha hb hc ra rb rc eA eB eC eS eX eP eQ eT eZ eX2 eP2 eZ2 hf hg sA sB sC
      go_enter Try.func5, Try.ntmps5
      go_wp2_with (first
        | (go_at_call 10; (with_reducible refine (shown5_any _).mono ?_); rintro e w1 ⟨rfl, hb'⟩; have G1 := Lib.hid hb'; clear hb')
        | (go_at_call 11; (with_reducible refine (FE.out _ (Qa.out.bl G1.out) (Qb.out.bl G1.out)).mono ?_); rintro e w' ⟨rfl, rfl⟩)
        | (go_at_call 11; (with_reducible refine (FC.out _ (Qc.out.bl G1.out) (Rw.nil _ _)).mono ?_); rintro e w' ⟨rfl, rfl⟩)
        | (go_at_call 23; (with_reducible refine (D1.out _ _ (Nb.out.bl G1.out)).mono ?_); rintro e w2 ⟨d1, rfl, hr, hb'⟩; have G_1 := Lib.hid (hr); have G2 := Lib.hid hb'; clear hr hb')
        | (go_at_call 23; (with_reducible refine (D2.out _ _ (Nc.out.bl (G1.out.trans G2.out))).mono ?_); rintro e w3 ⟨d2, rfl, hr, hb'⟩; have G_2 := Lib.hid (hr); have G3 := Lib.hid hb'; clear hr hb')
        | (go_at_call 22; (with_reducible refine (D3.out _ _ _ (G_1.out.bl G3.out) G_2.out).mono ?_); rintro e w4 ⟨d3, rfl, hr, hb'⟩; have G_3 := Lib.hid (hr); have G4 := Lib.hid hb'; clear hr hb')
        | (go_at_call 21; (with_reducible refine (D4.out _ _ G_3.out).mono ?_); rintro e w5 ⟨vs, rfl, hr, hb'⟩; have Ns := Lib.hid (Nu.dig hr sS.out (by decide)); have G5 := Lib.hid hb'; clear hr hb')
        | (go_at_call 14; (with_reducible refine (K1.out _ _ _ (Na.out.bl (G1.out.trans (G2.out.trans (G3.out.trans (G4.out.trans G5.out))))) Ns.out).mono ?_); rintro e w6 ⟨vx, rfl, hr, hb'⟩; have Rx := Lib.hid (hr); have G6 := Lib.hid hb'; clear hr hb')
        | (go_at_call 14; (with_reducible refine (K2.out _ _ _ (Na.out.bl (G1.out.trans (G2.out.trans (G3.out.trans (G4.out.trans (G5.out.trans G6.out)))))) (Nb.out.bl (G1.out.trans (G2.out.trans (G3.out.trans (G4.out.trans (G5.out.trans G6.out))))))).mono ?_); rintro e w7 ⟨v1, rfl, hr, hb'⟩; have N1 := Lib.hid (Nu.dig hr sP.out (by decide)); have G7 := Lib.hid hb'; clear hr hb')
        | (go_at_call 23; (with_reducible refine (D5.out _ _ N1.out).mono ?_); rintro e w8 ⟨d5, rfl, hr, hb'⟩; have G_5 := Lib.hid (hr); have G8 := Lib.hid hb'; clear hr hb')
        | (go_at_call 14; (with_reducible refine (K3.out _ _ _ (Na.out.bl (G1.out.trans (G2.out.trans (G3.out.trans (G4.out.trans (G5.out.trans (G6.out.trans (G7.out.trans G8.out)))))))) (Nc.out.bl (G1.out.trans (G2.out.trans (G3.out.trans (G4.out.trans (G5.out.trans (G6.out.trans (G7.out.trans G8.out))))))))).mono ?_); rintro e w9 ⟨v2, rfl, hr, hb'⟩; have N2 := Lib.hid (Nu.dig hr sQ.out (by decide)); have G9 := Lib.hid hb'; clear hr hb')
        | (go_at_call 23; (with_reducible refine (D6.out _ _ N2.out).mono ?_); rintro e w10 ⟨d6, rfl, hr, hb'⟩; have G_6 := Lib.hid (hr); have G10 := Lib.hid hb'; clear hr hb')
        | (go_at_call 22; (with_reducible refine (D7.out _ _ _ (G_5.out.bl (G9.out.trans G10.out)) G_6.out).mono ?_); rintro e w11 ⟨d7, rfl, hr, hb'⟩; have G_7 := Lib.hid (hr); have G11 := Lib.hid hb'; clear hr hb')
        | (go_at_call 21; (with_reducible refine (D8.out _ _ G_7.out).mono ?_); rintro e w12 ⟨vy, rfl, hr, hb'⟩; have Ry := Lib.hid (hr); have G12 := Lib.hid hb'; clear hr hb')
        | (go_at_call 13; (with_reducible refine (E1.out _ _ _ (Rx.out.bl (G7.out.trans (G8.out.trans (G9.out.trans (G10.out.trans (G11.out.trans G12.out)))))) Ry.out).mono ?_); rintro e w13 ⟨rfl, hb'⟩; have G13 := Lib.hid hb'; clear hb')
        | (go_at_call 14; (with_reducible refine (K2.out _ _ _ (Na.out.bl (G1.out.trans (G2.out.trans (G3.out.trans (G4.out.trans (G5.out.trans (G6.out.trans (G7.out.trans (G8.out.trans (G9.out.trans (G10.out.trans (G11.out.trans (G12.out.trans G13.out))))))))))))) (Nb.out.bl (G1.out.trans (G2.out.trans (G3.out.trans (G4.out.trans (G5.out.trans (G6.out.trans (G7.out.trans (G8.out.trans (G9.out.trans (G10.out.trans (G11.out.trans (G12.out.trans G13.out)))))))))))))).mono ?_); rintro e w14 ⟨v3, rfl, hr, hb'⟩; have R3 := Lib.hid (hr); have G14 := Lib.hid hb'; clear hr hb')
        | (go_at_call 14; (with_reducible refine (K4.out _ _ _ (Nb.out.bl (G1.out.trans (G2.out.trans (G3.out.trans (G4.out.trans (G5.out.trans (G6.out.trans (G7.out.trans (G8.out.trans (G9.out.trans (G10.out.trans (G11.out.trans (G12.out.trans (G13.out.trans G14.out)))))))))))))) (Na.out.bl (G1.out.trans (G2.out.trans (G3.out.trans (G4.out.trans (G5.out.trans (G6.out.trans (G7.out.trans (G8.out.trans (G9.out.trans (G10.out.trans (G11.out.trans (G12.out.trans (G13.out.trans G14.out))))))))))))))).mono ?_); rintro e w15 ⟨v4, rfl, hr, hb'⟩; have R4 := Lib.hid (hr); have G15 := Lib.hid hb'; clear hr hb')
        | (go_at_call 13; (with_reducible refine (E2.out _ _ _ (R3.out.bl G15.out) R4.out).mono ?_); rintro e w16 ⟨rfl, hb'⟩; have G16 := Lib.hid hb'; clear hb')
        | (go_at_call 14; (with_reducible refine (K2.out _ _ _ (Na.out.bl (G1.out.trans (G2.out.trans (G3.out.trans (G4.out.trans (G5.out.trans (G6.out.trans (G7.out.trans (G8.out.trans (G9.out.trans (G10.out.trans (G11.out.trans (G12.out.trans (G13.out.trans (G14.out.trans (G15.out.trans G16.out)))))))))))))))) (Nb.out.bl (G1.out.trans (G2.out.trans (G3.out.trans (G4.out.trans (G5.out.trans (G6.out.trans (G7.out.trans (G8.out.trans (G9.out.trans (G10.out.trans (G11.out.trans (G12.out.trans (G13.out.trans (G14.out.trans (G15.out.trans G16.out))))))))))))))))).mono ?_); rintro e w17 ⟨v5, rfl, hr, hb'⟩; have N5 := Lib.hid (Nu.dig hr sP.out (by decide)); have G17 := Lib.hid hb'; clear hr hb')
        | (go_at_call 14; (with_reducible refine (K5.out _ _ _ N5.out (Nc.out.bl (G1.out.trans (G2.out.trans (G3.out.trans (G4.out.trans (G5.out.trans (G6.out.trans (G7.out.trans (G8.out.trans (G9.out.trans (G10.out.trans (G11.out.trans (G12.out.trans (G13.out.trans (G14.out.trans (G15.out.trans (G16.out.trans G17.out)))))))))))))))))).mono ?_); rintro e w18 ⟨v6, rfl, hr, hb'⟩; have R6 := Lib.hid (hr); have G18 := Lib.hid hb'; clear hr hb')
        | (go_at_call 14; (with_reducible refine (K6.out _ _ _ (Nb.out.bl (G1.out.trans (G2.out.trans (G3.out.trans (G4.out.trans (G5.out.trans (G6.out.trans (G7.out.trans (G8.out.trans (G9.out.trans (G10.out.trans (G11.out.trans (G12.out.trans (G13.out.trans (G14.out.trans (G15.out.trans (G16.out.trans (G17.out.trans G18.out)))))))))))))))))) (Nc.out.bl (G1.out.trans (G2.out.trans (G3.out.trans (G4.out.trans (G5.out.trans (G6.out.trans (G7.out.trans (G8.out.trans (G9.out.trans (G10.out.trans (G11.out.trans (G12.out.trans (G13.out.trans (G14.out.trans (G15.out.trans (G16.out.trans (G17.out.trans G18.out))))))))))))))))))).mono ?_); rintro e w19 ⟨v7, rfl, hr, hb'⟩; have N7 := Lib.hid (Nu.dig hr sT.out (by decide)); have G19 := Lib.hid hb'; clear hr hb')
        | (go_at_call 14; (with_reducible refine (K7.out _ _ _ (Na.out.bl (G1.out.trans (G2.out.trans (G3.out.trans (G4.out.trans (G5.out.trans (G6.out.trans (G7.out.trans (G8.out.trans (G9.out.trans (G10.out.trans (G11.out.trans (G12.out.trans (G13.out.trans (G14.out.trans (G15.out.trans (G16.out.trans (G17.out.trans (G18.out.trans G19.out))))))))))))))))))) N7.out).mono ?_); rintro e w20 ⟨v8, rfl, hr, hb'⟩; have R8 := Lib.hid (hr); have G20 := Lib.hid hb'; clear hr hb')
        | (go_at_call 13; (with_reducible refine (E3.out _ _ _ (R6.out.bl (G19.out.trans G20.out)) R8.out).mono ?_); rintro e w21 ⟨rfl, hb'⟩; have G21 := Lib.hid hb'; clear hb'))
      go_ret
      exact ⟨rfl, (G1.out.trans (G2.out.trans (G3.out.trans (G4.out.trans (G5.out.trans (G6.out.trans (G7.out.trans (G8.out.trans (G9.out.trans (G10.out.trans (G11.out.trans (G12.out.trans (G13.out.trans (G14.out.trans (G15.out.trans (G16.out.trans (G17.out.trans (G18.out.trans (G19.out.trans (G20.out.trans G21.out))))))))))))))))))))⟩
    · skip
      have FE := Lib.hid (fun W h1 h2 => few5_yes va vb la lb hf.1 hf.2 W h1 h2)
      have FC := Lib.hid (fun W h1 h2 => few5_no vc (.slice none 0 0) lc [] (fun h => hg h.1) (rw_len rc) (by simp) W h1 h2)
      have Qa := Lib.hid ra
      have Qb := Lib.hid rb
      have Qc := Lib.hid rc
      clear ha hb hc ra rb rc hf hg
      go_enter Try.func5, Try.ntmps5
      go_wp2_with (first
        | (go_at_call 10; (with_reducible refine (shown5_any _).mono ?_); rintro e w1 ⟨rfl, hb'⟩; have G1 := Lib.hid hb'; clear hb')
        | (go_at_call 11; (with_reducible refine (FE.out _ (Qa.out.bl G1.out) (Qb.out.bl G1.out)).mono ?_); rintro e w' ⟨rfl, rfl⟩)
        | (go_at_call 11; (with_reducible refine (FC.out _ (Qc.out.bl G1.out) (Rw.nil _ _)).mono ?_); rintro e w' ⟨rfl, rfl⟩))
      go_ret
      exact ⟨rfl, G1.out⟩
  · skip
    have FE := Lib.hid (fun W h1 h2 => few5_no va vb la lb hf (rw_len ra) (rw_len rb) W h1 h2)
    have Qa := Lib.hid ra
    have Qb := Lib.hid rb
    have Qc := Lib.hid rc
    clear ha hb hc ra rb rc hf
    go_enter Try.func5, Try.ntmps5
    go_wp2_with (first
      | (go_at_call 10; (with_reducible refine (shown5_any _).mono ?_); rintro e w1 ⟨rfl, hb'⟩; have G1 := Lib.hid hb'; clear hb')
      | (go_at_call 11; (with_reducible refine (FE.out _ (Qa.out.bl G1.out) (Qb.out.bl G1.out)).mono ?_); rintro e w' ⟨rfl, rfl⟩))
    go_ret
    exact ⟨rfl, G1.out⟩
end Go.Proofs.Yteoeaogfeblokaa
