/-
  The walk of ProdSquares.
-/
import Derived.Test.YteoeaogfeblokaaProdS
import Derived.Test.YteoeaogfeblokaaProdE
namespace Go.Proofs.Yteoeaogfeblokaa
open Go.RowKit
set_option linter.unusedVariables false
set_option linter.unusedSimpArgs false

set_option maxRecDepth 100000 in
set_option maxHeartbeats 8000000 in
theorem prodSquares_walk (va : Value) (la : List Nat) (vb : Value) (lb : List Nat) (ha : All 18446744073709551616 la) (hb : All 18446744073709551616 lb) (w : World) (ra : Rw .u64 w va la) (rb : Rw .u64 w vb lb) :
    Calls Try.prog 7 #[va, vb] w fun e w' => e = .returned (.bool true) ∧ Bl w w' := by
  by_cases hf : la.length ≤ 40 ∧ lb.length ≤ 40
  · skip
    have FE := Lib.hid (fun W h1 h2 => few5_yes va vb la lb hf.1 hf.2 W h1 h2)
    have Na : Hid (Nu w va (val 18446744073709551616 la)) := Nu.mk ra ha (by omega)
    have sa := Lib.hid (Sz.of_val ha (k := 40) (by omega))
    have Qa := Lib.hid ra
    obtain ⟨A, eA⟩ : ∃ x, val 18446744073709551616 la = x := ⟨_, rfl⟩
    rw [eA] at Na sa
    have Nb : Hid (Nu w vb (val 18446744073709551616 lb)) := Nu.mk rb hb (by omega)
    have sb := Lib.hid (Sz.of_val hb (k := 40) (by omega))
    have Qb := Lib.hid rb
    obtain ⟨B, eB⟩ : ∃ x, val 18446744073709551616 lb = x := ⟨_, rfl⟩
    rw [eB] at Nb sb
    have sA := sa
    have sB := sb
    obtain ⟨P, eP⟩ : ∃ x, A * B = x := ⟨_, rfl⟩
    have sP : Hid (Sz 80 P) := (by rw [← eP]; exact szmul sa.out sb.out)
    obtain ⟨S, eS⟩ : ∃ x, A + B = x := ⟨_, rfl⟩
    have sS : Hid (Sz 41 S) := (by rw [← eS]; exact sa.out.add sb.out)
    obtain ⟨X, eX⟩ : ∃ x, A * A = x := ⟨_, rfl⟩
    have sX : Hid (Sz 80 X) := (by rw [← eX]; exact szmul sa.out sa.out)
    obtain ⟨Y, eY⟩ : ∃ x, B * B = x := ⟨_, rfl⟩
    have sY : Hid (Sz 80 Y) := (by rw [← eY]; exact szmul sb.out sb.out)
    obtain ⟨Z, eZ⟩ : ∃ x, S * S = x := ⟨_, rfl⟩
    have sZ : Hid (Sz 82 Z) := (by rw [← eZ]; exact szmul sS.out sS.out)
    obtain ⟨U, eU⟩ : ∃ x, X + Y = x := ⟨_, rfl⟩
    have sU : Hid (Sz 81 U) := (by rw [← eU]; exact sX.out.add sY.out)
    obtain ⟨V, eV⟩ : ∃ x, P + P = x := ⟨_, rfl⟩
    have sV : Hid (Sz 81 V) := (by rw [← eV]; exact sP.out.add sP.out)
    have eZ2 : U + V = Z := by
      rw [← eU, ← eV, ← eZ, ← eS, ← eX, ← eY, ← eP]
      simp only [Nat.mul_add, Nat.add_mul]
      have := Nat.mul_comm A B
      omega
    have D1 : Hid (∀ W v, Nu W v A → Calls Try.prog 23 #[v] W (RwEnd .i64 W (dig 65536 A))) := fun W v h0 => by
      have c := kDg h0
      exact c
    have D2 : Hid (∀ W v, Nu W v B → Calls Try.prog 23 #[v] W (RwEnd .i64 W (dig 65536 B))) := fun W v h0 => by
      have c := kDg h0
      exact c
    have K1 : Hid (∀ W v u, Nu W v A → Nu W u B → Calls Try.prog 14 #[v, u] W (RwEnd .u64 W (dig 18446744073709551616 P))) := fun W v u h0 h1 => by
      have c := pSchool W v u A B 40 40 h0 h1 sA.out sB.out (by decide)
      rw [eP] at c
      exact c
    have D3 : Hid (∀ W v, Nu W v P → Calls Try.prog 23 #[v] W (RwEnd .i64 W (dig 65536 P))) := fun W v h0 => by
      have c := kDg h0
      exact c
    have D4 : Hid (∀ W v u, De W v A → De W u B → Calls Try.prog 22 #[v, u] W (RwEnd .i64 W (dig 65536 S))) := fun W v u h0 h1 => by
      have c := kAdd A B (sA.out.sd (by decide)) (sB.out.sd (by decide)) W v u h0 h1
      rw [eS] at c
      exact c
    have D5 : Hid (∀ W v, De W v S → Calls Try.prog 21 #[v] W (RwEnd .u64 W (dig 18446744073709551616 S))) := fun W v h0 => by
      have c := kWords S (sS.out.sd (by decide)) W v h0
      exact c
    have K2 : Hid (∀ W v, Nu W v S → Calls Try.prog 16 #[v] W (RwEnd .u64 W (dig 18446744073709551616 Z))) := fun W v h0 => by
      have c := pSquare W v S 41 h0 sS.out (by decide)
      rw [eZ] at c
      exact c
    have K3 : Hid (∀ W v, Nu W v A → Calls Try.prog 16 #[v] W (RwEnd .u64 W (dig 18446744073709551616 X))) := fun W v h0 => by
      have c := pSquare W v A 40 h0 sA.out (by decide)
      rw [eX] at c
      exact c
    have D6 : Hid (∀ W v, Nu W v X → Calls Try.prog 23 #[v] W (RwEnd .i64 W (dig 65536 X))) := fun W v h0 => by
      have c := kDg h0
      exact c
    have K4 : Hid (∀ W v, Nu W v B → Calls Try.prog 16 #[v] W (RwEnd .u64 W (dig 18446744073709551616 Y))) := fun W v h0 => by
      have c := pSquare W v B 40 h0 sB.out (by decide)
      rw [eY] at c
      exact c
    have D7 : Hid (∀ W v, Nu W v Y → Calls Try.prog 23 #[v] W (RwEnd .i64 W (dig 65536 Y))) := fun W v h0 => by
      have c := kDg h0
      exact c
    have D8 : Hid (∀ W v u, De W v X → De W u Y → Calls Try.prog 22 #[v, u] W (RwEnd .i64 W (dig 65536 U))) := fun W v u h0 h1 => by
      have c := kAdd X Y (sX.out.sd (by decide)) (sY.out.sd (by decide)) W v u h0 h1
      rw [eU] at c
      exact c
    have D9 : Hid (∀ W v u, De W v P → De W u P → Calls Try.prog 22 #[v, u] W (RwEnd .i64 W (dig 65536 V))) := fun W v u h0 h1 => by
      have c := kAdd P P (sP.out.sd (by decide)) (sP.out.sd (by decide)) W v u h0 h1
      rw [eV] at c
      exact c
    have DA : Hid (∀ W v u, De W v U → De W u V → Calls Try.prog 22 #[v, u] W (RwEnd .i64 W (dig 65536 Z))) := fun W v u h0 h1 => by
      have c := kAdd U V (sU.out.sd (by decide)) (sV.out.sd (by decide)) W v u h0 h1
      rw [eZ2] at c
      exact c
    have DB : Hid (∀ W v, De W v Z → Calls Try.prog 21 #[v] W (RwEnd .u64 W (dig 18446744073709551616 Z))) := fun W v h0 => by
      have c := kWords Z (sZ.out.sd (by decide)) W v h0
      exact c
    have E1 := Lib.hid (kSame Z (sZ.out.sd (by decide)))
    clear ha hb ra rb eA eB eP eS eX eY eZ eU eV eZ2 hf sA sB
    go_enter Try.func7, Try.ntmps7
    go_wp2_with (first
      | (go_at_call 10; (with_reducible refine (shown5_any _).mono ?_); rintro e w1 ⟨rfl, hb'⟩; have G1 := Lib.hid hb'; clear hb')
      | (go_at_call 11; (with_reducible refine (FE.out _ (Qa.out.bl G1.out) (Qb.out.bl G1.out)).mono ?_); rintro e w' ⟨rfl, rfl⟩)
      | (go_at_call 23; (with_reducible refine (D1.out _ _ (Na.out.bl G1.out)).mono ?_); rintro e w2 ⟨d1, rfl, hr, hb'⟩; have G_1 := Lib.hid (hr); have G2 := Lib.hid hb'; clear hr hb')
      | (go_at_call 23; (with_reducible refine (D2.out _ _ (Nb.out.bl (G1.out.trans G2.out))).mono ?_); rintro e w3 ⟨d2, rfl, hr, hb'⟩; have G_2 := Lib.hid (hr); have G3 := Lib.hid hb'; clear hr hb')
      | (go_at_call 14; (with_reducible refine (K1.out _ _ _ (Na.out.bl (G1.out.trans (G2.out.trans G3.out))) (Nb.out.bl (G1.out.trans (G2.out.trans G3.out)))).mono ?_); rintro e w4 ⟨v1, rfl, hr, hb'⟩; have N1 := Lib.hid (Nu.dig hr sP.out (by decide)); have G4 := Lib.hid hb'; clear hr hb')
      | (go_at_call 23; (with_reducible refine (D3.out _ _ N1.out).mono ?_); rintro e w5 ⟨d3, rfl, hr, hb'⟩; have G_3 := Lib.hid (hr); have G5 := Lib.hid hb'; clear hr hb')
      | (go_at_call 22; (with_reducible refine (D4.out _ _ _ (G_1.out.bl (G3.out.trans (G4.out.trans G5.out))) (G_2.out.bl (G4.out.trans G5.out))).mono ?_); rintro e w6 ⟨d4, rfl, hr, hb'⟩; have G_4 := Lib.hid (hr); have G6 := Lib.hid hb'; clear hr hb')
      | (go_at_call 21; (with_reducible refine (D5.out _ _ G_4.out).mono ?_); rintro e w7 ⟨v2, rfl, hr, hb'⟩; have N2 := Lib.hid (Nu.dig hr sS.out (by decide)); have G7 := Lib.hid hb'; clear hr hb')
      | (go_at_call 16; (with_reducible refine (K2.out _ _ N2.out).mono ?_); rintro e w8 ⟨v3, rfl, hr, hb'⟩; have R3 := Lib.hid (hr); have G8 := Lib.hid hb'; clear hr hb')
      | (go_at_call 16; (with_reducible refine (K3.out _ _ (Na.out.bl (G1.out.trans (G2.out.trans (G3.out.trans (G4.out.trans (G5.out.trans (G6.out.trans (G7.out.trans G8.out))))))))).mono ?_); rintro e w9 ⟨v4, rfl, hr, hb'⟩; have N4 := Lib.hid (Nu.dig hr sX.out (by decide)); have G9 := Lib.hid hb'; clear hr hb')
      | (go_at_call 23; (with_reducible refine (D6.out _ _ N4.out).mono ?_); rintro e w10 ⟨d6, rfl, hr, hb'⟩; have G_6 := Lib.hid (hr); have G10 := Lib.hid hb'; clear hr hb')
      | (go_at_call 16; (with_reducible refine (K4.out _ _ (Nb.out.bl (G1.out.trans (G2.out.trans (G3.out.trans (G4.out.trans (G5.out.trans (G6.out.trans (G7.out.trans (G8.out.trans (G9.out.trans G10.out))))))))))).mono ?_); rintro e w11 ⟨v5, rfl, hr, hb'⟩; have N5 := Lib.hid (Nu.dig hr sY.out (by decide)); have G11 := Lib.hid hb'; clear hr hb')
      | (go_at_call 23; (with_reducible refine (D7.out _ _ N5.out).mono ?_); rintro e w12 ⟨d7, rfl, hr, hb'⟩; have G_7 := Lib.hid (hr); have G12 := Lib.hid hb'; clear hr hb')
      | (go_at_call 22; (with_reducible refine (D8.out _ _ _ (G_6.out.bl (G11.out.trans G12.out)) G_7.out).mono ?_); rintro e w13 ⟨d8, rfl, hr, hb'⟩; have G_8 := Lib.hid (hr); have G13 := Lib.hid hb'; clear hr hb')
      | (go_at_call 22; (with_reducible refine (D9.out _ _ _ (G_3.out.bl (G6.out.trans (G7.out.trans (G8.out.trans (G9.out.trans (G10.out.trans (G11.out.trans (G12.out.trans G13.out)))))))) (G_3.out.bl (G6.out.trans (G7.out.trans (G8.out.trans (G9.out.trans (G10.out.trans (G11.out.trans (G12.out.trans G13.out))))))))).mono ?_); rintro e w14 ⟨d9, rfl, hr, hb'⟩; have G_9 := Lib.hid (hr); have G14 := Lib.hid hb'; clear hr hb')
      | (go_at_call 22; (with_reducible refine (DA.out _ _ _ (G_8.out.bl G14.out) G_9.out).mono ?_); rintro e w15 ⟨da, rfl, hr, hb'⟩; have G_A := Lib.hid (hr); have G15 := Lib.hid hb'; clear hr hb')
      | (go_at_call 21; (with_reducible refine (DB.out _ _ G_A.out).mono ?_); rintro e w16 ⟨v6, rfl, hr, hb'⟩; have R6 := Lib.hid (hr); have G16 := Lib.hid hb'; clear hr hb')
      | (go_at_call 13; (with_reducible refine (E1.out _ _ _ (R3.out.bl (G9.out.trans (G10.out.trans (G11.out.trans (G12.out.trans (G13.out.trans (G14.out.trans (G15.out.trans G16.out)))))))) R6.out).mono ?_); rintro e w17 ⟨rfl, hb'⟩; have G17 := Lib.hid hb'; clear hb'))
    go_ret
    exact ⟨rfl, (G1.out.trans (G2.out.trans (G3.out.trans (G4.out.trans (G5.out.trans (G6.out.trans (G7.out.trans (G8.out.trans (G9.out.trans (G10.out.trans (G11.out.trans (G12.out.trans (G13.out.trans (G14.out.trans (G15.out.trans (G16.out.trans G17.out))))))))))))))))⟩
  · skip
    have FE := Lib.hid (fun W h1 h2 => few5_no va vb la lb hf (rw_len ra) (rw_len rb) W h1 h2)
    have Qa := Lib.hid ra
    have Qb := Lib.hid rb
    clear ha hb ra rb hf
    go_enter Try.func7, Try.ntmps7
    go_wp2_with (first
      | (go_at_call 10; (with_reducible refine (shown5_any _).mono ?_); rintro e w1 ⟨rfl, hb'⟩; have G1 := Lib.hid hb'; clear hb')
      | (go_at_call 11; (with_reducible refine (FE.out _ (Qa.out.bl G1.out) (Qb.out.bl G1.out)).mono ?_); rintro e w' ⟨rfl, rfl⟩))
    go_ret
    exact ⟨rfl, G1.out⟩
end Go.Proofs.Yteoeaogfeblokaa
