/-
  The walks of the statements of layer 4: NatTells.
-/
import Derived.Test.YtdbmfbfdiadiaaaNatR
namespace Go.Proofs.Ytdbmfbfdiadiaaa
open Go.RowKit
set_option linter.unusedVariables false

set_option maxRecDepth 100000 in
set_option maxHeartbeats 8000000 in
theorem natTells_walk' (hAdd : CAdd) (hShr : CShr) (hCmp : CCmp) (va : Value) (la : List Nat) (vb : Value) (lb : List Nat) (vc : Value) (lc : List Nat) (ha : All 18446744073709551616 la) (hb : All 18446744073709551616 lb) (hc : All 18446744073709551616 lc) (w : World) (ra : Rw .u64 w va la) (rb : Rw .u64 w vb lb) (rc : Rw .u64 w vc lc) :
    Calls Try.prog 10 #[va, vb, vc] w fun e w' => e = .returned (.bool true) ∧ Bl w w' := by
  by_cases hf : la.length ≤ 40 ∧ lb.length ≤ 40
  · by_cases hg : lc.length ≤ 40
    · have FE := Lib.hid (fun W h1 h2 => few_yes va vb la lb hf.1 hf.2 W h1 h2)
      have FC := Lib.hid (fun W h1 h2 => few_yes vc (.slice none 0 0) lc [] hg (by simp) W h1 h2)
      have Na : Hid (Nu w va (val 18446744073709551616 la)) := Nu.mk ra ha (by omega)
      have sa := Lib.hid (Sz.of_val ha (k := 40) (by omega))
      have Qa := Lib.hid ra
      obtain ⟨A, eA⟩ : ∃ x, val 18446744073709551616 la = x := ⟨_, rfl⟩
      rw [eA] at Na sa
      have Nb : Hid (Nu w vb (val 18446744073709551616 lb)) := Nu.mk rb hb (by omega)
      have sb := Lib.hid (Sz.of_val hb (k := 40) (by omega))
      have Qb := Lib.hid rb
      obtain ⟨B, eB⟩ : ∃ x, val 18446744073709551616 lb = x := ⟨_, rfl⟩
      rw [eB] at Nb sb
      have Nc : Hid (Nu w vc (val 18446744073709551616 lc)) := Nu.mk rc hc (by omega)
      have sc := Lib.hid (Sz.of_val hc (k := 40) (by omega))
      have Qc := Lib.hid rc
      obtain ⟨C, eC⟩ : ∃ x, val 18446744073709551616 lc = x := ⟨_, rfl⟩
      rw [eC] at Nc sc
      obtain ⟨S, eS⟩ : ∃ S, A + C = S := ⟨_, rfl⟩
      obtain ⟨T, eT⟩ : ∃ T, B + C = T := ⟨_, rfl⟩
      have sS : Hid (Sz 41 S) := (by rw [← eS]; exact sa.out.add sc.out)
      have sT : Hid (Sz 41 T) := (by rw [← eT]; exact sb.out.add sc.out)
      have KS : Hid (∀ W v u, Nu W v A → Nu W u C → Calls Try.prog 19 #[v, u] W (RwEnd .u64 W (dig 18446744073709551616 (S)))) := fun W v u h1 h2 => by
        have c := hAdd W v u _ _ h1 h2
        rw [eS] at c
        exact c
      have KT : Hid (∀ W v u, Nu W v B → Nu W u C → Calls Try.prog 19 #[v, u] W (RwEnd .u64 W (dig 18446744073709551616 (T)))) := fun W v u h1 h2 => by
        have c := hAdd W v u _ _ h1 h2
        rw [eT] at c
        exact c
      have KA : Hid (∀ W v u, Nu W v A → Nu W u A → Calls Try.prog 23 #[v, u] W fun e w => e = .returned (.int .i64 (0)) ∧ Bl W w) := fun W v u h1 h2 => by
        have c := hCmp W v u _ _ h1 h2
        rw [cmpi_eq rfl] at c
        exact c
      rcases Nat.lt_trichotomy A B with g1 | g1 | g1
      · rcases Nat.lt_trichotomy B C with g2 | g2 | g2
        · rcases Nat.lt_trichotomy A C with g3 | g3 | g3
          · skip
            have KX : Hid (∀ W v u, Nu W v A → Nu W u B → Calls Try.prog 23 #[v, u] W fun e w => e = .returned (.int .i64 (-1)) ∧ Bl W w) := fun W v u h1 h2 => by
              have c := hCmp W v u _ _ h1 h2
              rw [cmpi_lt g1] at c
              exact c
            have KY : Hid (∀ W v u, Nu W v B → Nu W u C → Calls Try.prog 23 #[v, u] W fun e w => e = .returned (.int .i64 (-1)) ∧ Bl W w) := fun W v u h1 h2 => by
              have c := hCmp W v u _ _ h1 h2
              rw [cmpi_lt g2] at c
              exact c
            have KZ : Hid (∀ W v u, Nu W v A → Nu W u C → Calls Try.prog 23 #[v, u] W fun e w => e = .returned (.int .i64 (-1)) ∧ Bl W w) := fun W v u h1 h2 => by
              have c := hCmp W v u _ _ h1 h2
              rw [cmpi_lt g3] at c
              exact c
            have KV : Hid (∀ W v u, Nu W v B → Nu W u A → Calls Try.prog 23 #[v, u] W fun e w => e = .returned (.int .i64 (1)) ∧ Bl W w) := fun W v u h1 h2 => by
              have c := hCmp W v u _ _ h1 h2
              rw [cmpi_gt (by omega)] at c
              exact c
            have KU : Hid (∀ W v u, Nu W v S → Nu W u T → Calls Try.prog 23 #[v, u] W fun e w => e = .returned (.int .i64 (-1)) ∧ Bl W w) := fun W v u h1 h2 => by
              have c := hCmp W v u _ _ h1 h2
              rw [cmpi_lt (by omega)] at c
              exact c
            clear ha hb hc ra rb rc eA eB eC hf hg g1 g2 g3 eS eT
            go_enter Try.func10, Try.ntmps10
            go_wp2_with (first
              | (go_at_call 11; (with_reducible refine (shown4_any hAdd hShr _).mono ?_); rintro e w1 ⟨rfl, hb'⟩; have G1 := Lib.hid hb'; clear hb')
              | (go_at_call 12; (with_reducible refine (FE.out _ (Qa.out.bl G1.out) (Qb.out.bl G1.out)).mono ?_); rintro e w' ⟨rfl, rfl⟩)
              | (go_at_call 12; (with_reducible refine (FC.out _ (Qc.out.bl G1.out) (Rw.nil _ _)).mono ?_); rintro e w' ⟨rfl, rfl⟩)
              | (go_at_call 23; (with_reducible refine (KX.out _ _ _ (Na.out.bl G1.out) (Nb.out.bl G1.out)).mono ?_); rintro e w2 ⟨rfl, hb'⟩; have G2 := Lib.hid hb'; clear hb')
              | (go_at_call 23; (with_reducible refine (KY.out _ _ _ (Nb.out.bl (G1.out.trans G2.out)) (Nc.out.bl (G1.out.trans G2.out))).mono ?_); rintro e w3 ⟨rfl, hb'⟩; have G3 := Lib.hid hb'; clear hb')
              | (go_at_call 23; (with_reducible refine (KZ.out _ _ _ (Na.out.bl (G1.out.trans (G2.out.trans G3.out))) (Nc.out.bl (G1.out.trans (G2.out.trans G3.out)))).mono ?_); rintro e w4 ⟨rfl, hb'⟩; have G4 := Lib.hid hb'; clear hb')
              | (go_at_call 23; (with_reducible refine (KV.out _ _ _ (Nb.out.bl (G1.out.trans (G2.out.trans (G3.out.trans G4.out)))) (Na.out.bl (G1.out.trans (G2.out.trans (G3.out.trans G4.out))))).mono ?_); rintro e w5 ⟨rfl, hb'⟩; have G5 := Lib.hid hb'; clear hb')
              | (go_at_call 23; (with_reducible refine (KA.out _ _ _ (Na.out.bl (G1.out.trans (G2.out.trans (G3.out.trans (G4.out.trans G5.out))))) (Na.out.bl (G1.out.trans (G2.out.trans (G3.out.trans (G4.out.trans G5.out)))))).mono ?_); rintro e w6 ⟨rfl, hb'⟩; have G6 := Lib.hid hb'; clear hb')
              | (go_at_call 19; (with_reducible refine (KS.out _ _ _ (Na.out.bl (G1.out.trans (G2.out.trans (G3.out.trans (G4.out.trans (G5.out.trans G6.out)))))) (Nc.out.bl (G1.out.trans (G2.out.trans (G3.out.trans (G4.out.trans (G5.out.trans G6.out))))))).mono ?_); rintro e w7 ⟨v1, rfl, hr, hb'⟩; have N1 := Lib.hid (Nu.dig hr sS.out (by decide)); have G7 := Lib.hid hb'; clear hr hb')
              | (go_at_call 19; (with_reducible refine (KT.out _ _ _ (Nb.out.bl (G1.out.trans (G2.out.trans (G3.out.trans (G4.out.trans (G5.out.trans (G6.out.trans G7.out))))))) (Nc.out.bl (G1.out.trans (G2.out.trans (G3.out.trans (G4.out.trans (G5.out.trans (G6.out.trans G7.out)))))))).mono ?_); rintro e w8 ⟨v2, rfl, hr, hb'⟩; have N2 := Lib.hid (Nu.dig hr sT.out (by decide)); have G8 := Lib.hid hb'; clear hr hb')
              | (go_at_call 23; (with_reducible refine (KU.out _ _ _ (N1.out.bl G8.out) N2.out).mono ?_); rintro e w9 ⟨rfl, hb'⟩; have G9 := Lib.hid hb'; clear hb'))
            go_ret
            exact ⟨rfl, (G1.out.trans (G2.out.trans (G3.out.trans (G4.out.trans (G5.out.trans (G6.out.trans (G7.out.trans (G8.out.trans G9.out))))))))⟩
          · omega
          · omega
        · rcases Nat.lt_trichotomy A C with g3 | g3 | g3
          · skip
            have KX : Hid (∀ W v u, Nu W v A → Nu W u B → Calls Try.prog 23 #[v, u] W fun e w => e = .returned (.int .i64 (-1)) ∧ Bl W w) := fun W v u h1 h2 => by
              have c := hCmp W v u _ _ h1 h2
              rw [cmpi_lt g1] at c
              exact c
            have KY : Hid (∀ W v u, Nu W v B → Nu W u C → Calls Try.prog 23 #[v, u] W fun e w => e = .returned (.int .i64 (0)) ∧ Bl W w) := fun W v u h1 h2 => by
              have c := hCmp W v u _ _ h1 h2
              rw [cmpi_eq g2] at c
              exact c
            have KZ : Hid (∀ W v u, Nu W v A → Nu W u C → Calls Try.prog 23 #[v, u] W fun e w => e = .returned (.int .i64 (-1)) ∧ Bl W w) := fun W v u h1 h2 => by
              have c := hCmp W v u _ _ h1 h2
              rw [cmpi_lt g3] at c
              exact c
            have KV : Hid (∀ W v u, Nu W v B → Nu W u A → Calls Try.prog 23 #[v, u] W fun e w => e = .returned (.int .i64 (1)) ∧ Bl W w) := fun W v u h1 h2 => by
              have c := hCmp W v u _ _ h1 h2
              rw [cmpi_gt (by omega)] at c
              exact c
            have KU : Hid (∀ W v u, Nu W v S → Nu W u T → Calls Try.prog 23 #[v, u] W fun e w => e = .returned (.int .i64 (-1)) ∧ Bl W w) := fun W v u h1 h2 => by
              have c := hCmp W v u _ _ h1 h2
              rw [cmpi_lt (by omega)] at c
              exact c
            clear ha hb hc ra rb rc eA eB eC hf hg g1 g2 g3 eS eT
            go_enter Try.func10, Try.ntmps10
            go_wp2_with (first
              | (go_at_call 11; (with_reducible refine (shown4_any hAdd hShr _).mono ?_); rintro e w1 ⟨rfl, hb'⟩; have G1 := Lib.hid hb'; clear hb')
              | (go_at_call 12; (with_reducible refine (FE.out _ (Qa.out.bl G1.out) (Qb.out.bl G1.out)).mono ?_); rintro e w' ⟨rfl, rfl⟩)
              | (go_at_call 12; (with_reducible refine (FC.out _ (Qc.out.bl G1.out) (Rw.nil _ _)).mono ?_); rintro e w' ⟨rfl, rfl⟩)
              | (go_at_call 23; (with_reducible refine (KX.out _ _ _ (Na.out.bl G1.out) (Nb.out.bl G1.out)).mono ?_); rintro e w2 ⟨rfl, hb'⟩; have G2 := Lib.hid hb'; clear hb')
              | (go_at_call 23; (with_reducible refine (KY.out _ _ _ (Nb.out.bl (G1.out.trans G2.out)) (Nc.out.bl (G1.out.trans G2.out))).mono ?_); rintro e w3 ⟨rfl, hb'⟩; have G3 := Lib.hid hb'; clear hb')
              | (go_at_call 23; (with_reducible refine (KZ.out _ _ _ (Na.out.bl (G1.out.trans (G2.out.trans G3.out))) (Nc.out.bl (G1.out.trans (G2.out.trans G3.out)))).mono ?_); rintro e w4 ⟨rfl, hb'⟩; have G4 := Lib.hid hb'; clear hb')
              | (go_at_call 23; (with_reducible refine (KV.out _ _ _ (Nb.out.bl (G1.out.trans (G2.out.trans (G3.out.trans G4.out)))) (Na.out.bl (G1.out.trans (G2.out.trans (G3.out.trans G4.out))))).mono ?_); rintro e w5 ⟨rfl, hb'⟩; have G5 := Lib.hid hb'; clear hb')
              | (go_at_call 23; (with_reducible refine (KA.out _ _ _ (Na.out.bl (G1.out.trans (G2.out.trans (G3.out.trans (G4.out.trans G5.out))))) (Na.out.bl (G1.out.trans (G2.out.trans (G3.out.trans (G4.out.trans G5.out)))))).mono ?_); rintro e w6 ⟨rfl, hb'⟩; have G6 := Lib.hid hb'; clear hb')
              | (go_at_call 19; (with_reducible refine (KS.out _ _ _ (Na.out.bl (G1.out.trans (G2.out.trans (G3.out.trans (G4.out.trans (G5.out.trans G6.out)))))) (Nc.out.bl (G1.out.trans (G2.out.trans (G3.out.trans (G4.out.trans (G5.out.trans G6.out))))))).mono ?_); rintro e w7 ⟨v1, rfl, hr, hb'⟩; have N1 := Lib.hid (Nu.dig hr sS.out (by decide)); have G7 := Lib.hid hb'; clear hr hb')
              | (go_at_call 19; (with_reducible refine (KT.out _ _ _ (Nb.out.bl (G1.out.trans (G2.out.trans (G3.out.trans (G4.out.trans (G5.out.trans (G6.out.trans G7.out))))))) (Nc.out.bl (G1.out.trans (G2.out.trans (G3.out.trans (G4.out.trans (G5.out.trans (G6.out.trans G7.out)))))))).mono ?_); rintro e w8 ⟨v2, rfl, hr, hb'⟩; have N2 := Lib.hid (Nu.dig hr sT.out (by decide)); have G8 := Lib.hid hb'; clear hr hb')
              | (go_at_call 23; (with_reducible refine (KU.out _ _ _ (N1.out.bl G8.out) N2.out).mono ?_); rintro e w9 ⟨rfl, hb'⟩; have G9 := Lib.hid hb'; clear hb'))
            go_ret
            exact ⟨rfl, (G1.out.trans (G2.out.trans (G3.out.trans (G4.out.trans (G5.out.trans (G6.out.trans (G7.out.trans (G8.out.trans G9.out))))))))⟩
          · omega
          · omega
        · rcases Nat.lt_trichotomy A C with g3 | g3 | g3
          · skip
            have KX : Hid (∀ W v u, Nu W v A → Nu W u B → Calls Try.prog 23 #[v, u] W fun e w => e = .returned (.int .i64 (-1)) ∧ Bl W w) := fun W v u h1 h2 => by
              have c := hCmp W v u _ _ h1 h2
              rw [cmpi_lt g1] at c
              exact c
            have KY : Hid (∀ W v u, Nu W v B → Nu W u C → Calls Try.prog 23 #[v, u] W fun e w => e = .returned (.int .i64 (1)) ∧ Bl W w) := fun W v u h1 h2 => by
              have c := hCmp W v u _ _ h1 h2
              rw [cmpi_gt g2] at c
              exact c
            have KZ : Hid (∀ W v u, Nu W v A → Nu W u C → Calls Try.prog 23 #[v, u] W fun e w => e = .returned (.int .i64 (-1)) ∧ Bl W w) := fun W v u h1 h2 => by
              have c := hCmp W v u _ _ h1 h2
              rw [cmpi_lt g3] at c
              exact c
            have KV : Hid (∀ W v u, Nu W v B → Nu W u A → Calls Try.prog 23 #[v, u] W fun e w => e = .returned (.int .i64 (1)) ∧ Bl W w) := fun W v u h1 h2 => by
              have c := hCmp W v u _ _ h1 h2
              rw [cmpi_gt (by omega)] at c
              exact c
            have KU : Hid (∀ W v u, Nu W v S → Nu W u T → Calls Try.prog 23 #[v, u] W fun e w => e = .returned (.int .i64 (-1)) ∧ Bl W w) := fun W v u h1 h2 => by
              have c := hCmp W v u _ _ h1 h2
              rw [cmpi_lt (by omega)] at c
              exact c
            clear ha hb hc ra rb rc eA eB eC hf hg g1 g2 g3 eS eT
            go_enter Try.func10, Try.ntmps10
            go_wp2_with (first
              | (go_at_call 11; (with_reducible refine (shown4_any hAdd hShr _).mono ?_); rintro e w1 ⟨rfl, hb'⟩; have G1 := Lib.hid hb'; clear hb')
              | (go_at_call 12; (with_reducible refine (FE.out _ (Qa.out.bl G1.out) (Qb.out.bl G1.out)).mono ?_); rintro e w' ⟨rfl, rfl⟩)
              | (go_at_call 12; (with_reducible refine (FC.out _ (Qc.out.bl G1.out) (Rw.nil _ _)).mono ?_); rintro e w' ⟨rfl, rfl⟩)
              | (go_at_call 23; (with_reducible refine (KX.out _ _ _ (Na.out.bl G1.out) (Nb.out.bl G1.out)).mono ?_); rintro e w2 ⟨rfl, hb'⟩; have G2 := Lib.hid hb'; clear hb')
              | (go_at_call 23; (with_reducible refine (KY.out _ _ _ (Nb.out.bl (G1.out.trans G2.out)) (Nc.out.bl (G1.out.trans G2.out))).mono ?_); rintro e w3 ⟨rfl, hb'⟩; have G3 := Lib.hid hb'; clear hb')
              | (go_at_call 23; (with_reducible refine (KZ.out _ _ _ (Na.out.bl (G1.out.trans (G2.out.trans G3.out))) (Nc.out.bl (G1.out.trans (G2.out.trans G3.out)))).mono ?_); rintro e w4 ⟨rfl, hb'⟩; have G4 := Lib.hid hb'; clear hb')
              | (go_at_call 23; (with_reducible refine (KV.out _ _ _ (Nb.out.bl (G1.out.trans (G2.out.trans (G3.out.trans G4.out)))) (Na.out.bl (G1.out.trans (G2.out.trans (G3.out.trans G4.out))))).mono ?_); rintro e w5 ⟨rfl, hb'⟩; have G5 := Lib.hid hb'; clear hb')
              | (go_at_call 23; (with_reducible refine (KA.out _ _ _ (Na.out.bl (G1.out.trans (G2.out.trans (G3.out.trans (G4.out.trans G5.out))))) (Na.out.bl (G1.out.trans (G2.out.trans (G3.out.trans (G4.out.trans G5.out)))))).mono ?_); rintro e w6 ⟨rfl, hb'⟩; have G6 := Lib.hid hb'; clear hb')
              | (go_at_call 19; (with_reducible refine (KS.out _ _ _ (Na.out.bl (G1.out.trans (G2.out.trans (G3.out.trans (G4.out.trans (G5.out.trans G6.out)))))) (Nc.out.bl (G1.out.trans (G2.out.trans (G3.out.trans (G4.out.trans (G5.out.trans G6.out))))))).mono ?_); rintro e w7 ⟨v1, rfl, hr, hb'⟩; have N1 := Lib.hid (Nu.dig hr sS.out (by decide)); have G7 := Lib.hid hb'; clear hr hb')
              | (go_at_call 19; (with_reducible refine (KT.out _ _ _ (Nb.out.bl (G1.out.trans (G2.out.trans (G3.out.trans (G4.out.trans (G5.out.trans (G6.out.trans G7.out))))))) (Nc.out.bl (G1.out.trans (G2.out.trans (G3.out.trans (G4.out.trans (G5.out.trans (G6.out.trans G7.out)))))))).mono ?_); rintro e w8 ⟨v2, rfl, hr, hb'⟩; have N2 := Lib.hid (Nu.dig hr sT.out (by decide)); have G8 := Lib.hid hb'; clear hr hb')
              | (go_at_call 23; (with_reducible refine (KU.out _ _ _ (N1.out.bl G8.out) N2.out).mono ?_); rintro e w9 ⟨rfl, hb'⟩; have G9 := Lib.hid hb'; clear hb'))
            go_ret
            exact ⟨rfl, (G1.out.trans (G2.out.trans (G3.out.trans (G4.out.trans (G5.out.trans (G6.out.trans (G7.out.trans (G8.out.trans G9.out))))))))⟩
          · skip
            have KX : Hid (∀ W v u, Nu W v A → Nu W u B → Calls Try.prog 23 #[v, u] W fun e w => e = .returned (.int .i64 (-1)) ∧ Bl W w) := fun W v u h1 h2 => by
              have c := hCmp W v u _ _ h1 h2
              rw [cmpi_lt g1] at c
              exact c
            have KY : Hid (∀ W v u, Nu W v B → Nu W u C → Calls Try.prog 23 #[v, u] W fun e w => e = .returned (.int .i64 (1)) ∧ Bl W w) := fun W v u h1 h2 => by
              have c := hCmp W v u _ _ h1 h2
              rw [cmpi_gt g2] at c
              exact c
            have KZ : Hid (∀ W v u, Nu W v A → Nu W u C → Calls Try.prog 23 #[v, u] W fun e w => e = .returned (.int .i64 (0)) ∧ Bl W w) := fun W v u h1 h2 => by
              have c := hCmp W v u _ _ h1 h2
              rw [cmpi_eq g3] at c
              exact c
            have KV : Hid (∀ W v u, Nu W v B → Nu W u A → Calls Try.prog 23 #[v, u] W fun e w => e = .returned (.int .i64 (1)) ∧ Bl W w) := fun W v u h1 h2 => by
              have c := hCmp W v u _ _ h1 h2
              rw [cmpi_gt (by omega)] at c
              exact c
            have KU : Hid (∀ W v u, Nu W v S → Nu W u T → Calls Try.prog 23 #[v, u] W fun e w => e = .returned (.int .i64 (-1)) ∧ Bl W w) := fun W v u h1 h2 => by
              have c := hCmp W v u _ _ h1 h2
              rw [cmpi_lt (by omega)] at c
              exact c
            clear ha hb hc ra rb rc eA eB eC hf hg g1 g2 g3 eS eT
            go_enter Try.func10, Try.ntmps10
            go_wp2_with (first
              | (go_at_call 11; (with_reducible refine (shown4_any hAdd hShr _).mono ?_); rintro e w1 ⟨rfl, hb'⟩; have G1 := Lib.hid hb'; clear hb')
              | (go_at_call 12; (with_reducible refine (FE.out _ (Qa.out.bl G1.out) (Qb.out.bl G1.out)).mono ?_); rintro e w' ⟨rfl, rfl⟩)
              | (go_at_call 12; (with_reducible refine (FC.out _ (Qc.out.bl G1.out) (Rw.nil _ _)).mono ?_); rintro e w' ⟨rfl, rfl⟩)
              | (go_at_call 23; (with_reducible refine (KX.out _ _ _ (Na.out.bl G1.out) (Nb.out.bl G1.out)).mono ?_); rintro e w2 ⟨rfl, hb'⟩; have G2 := Lib.hid hb'; clear hb')
              | (go_at_call 23; (with_reducible refine (KY.out _ _ _ (Nb.out.bl (G1.out.trans G2.out)) (Nc.out.bl (G1.out.trans G2.out))).mono ?_); rintro e w3 ⟨rfl, hb'⟩; have G3 := Lib.hid hb'; clear hb')
              | (go_at_call 23; (with_reducible refine (KZ.out _ _ _ (Na.out.bl (G1.out.trans (G2.out.trans G3.out))) (Nc.out.bl (G1.out.trans (G2.out.trans G3.out)))).mono ?_); rintro e w4 ⟨rfl, hb'⟩; have G4 := Lib.hid hb'; clear hb')
              | (go_at_call 23; (with_reducible refine (KV.out _ _ _ (Nb.out.bl (G1.out.trans (G2.out.trans (G3.out.trans G4.out)))) (Na.out.bl (G1.out.trans (G2.out.trans (G3.out.trans G4.out))))).mono ?_); rintro e w5 ⟨rfl, hb'⟩; have G5 := Lib.hid hb'; clear hb')
              | (go_at_call 23; (with_reducible refine (KA.out _ _ _ (Na.out.bl (G1.out.trans (G2.out.trans (G3.out.trans (G4.out.trans G5.out))))) (Na.out.bl (G1.out.trans (G2.out.trans (G3.out.trans (G4.out.trans G5.out)))))).mono ?_); rintro e w6 ⟨rfl, hb'⟩; have G6 := Lib.hid hb'; clear hb')
              | (go_at_call 19; (with_reducible refine (KS.out _ _ _ (Na.out.bl (G1.out.trans (G2.out.trans (G3.out.trans (G4.out.trans (G5.out.trans G6.out)))))) (Nc.out.bl (G1.out.trans (G2.out.trans (G3.out.trans (G4.out.trans (G5.out.trans G6.out))))))).mono ?_); rintro e w7 ⟨v1, rfl, hr, hb'⟩; have N1 := Lib.hid (Nu.dig hr sS.out (by decide)); have G7 := Lib.hid hb'; clear hr hb')
              | (go_at_call 19; (with_reducible refine (KT.out _ _ _ (Nb.out.bl (G1.out.trans (G2.out.trans (G3.out.trans (G4.out.trans (G5.out.trans (G6.out.trans G7.out))))))) (Nc.out.bl (G1.out.trans (G2.out.trans (G3.out.trans (G4.out.trans (G5.out.trans (G6.out.trans G7.out)))))))).mono ?_); rintro e w8 ⟨v2, rfl, hr, hb'⟩; have N2 := Lib.hid (Nu.dig hr sT.out (by decide)); have G8 := Lib.hid hb'; clear hr hb')
              | (go_at_call 23; (with_reducible refine (KU.out _ _ _ (N1.out.bl G8.out) N2.out).mono ?_); rintro e w9 ⟨rfl, hb'⟩; have G9 := Lib.hid hb'; clear hb'))
            go_ret
            exact ⟨rfl, (G1.out.trans (G2.out.trans (G3.out.trans (G4.out.trans (G5.out.trans (G6.out.trans (G7.out.trans (G8.out.trans G9.out))))))))⟩
          · skip
            have KX : Hid (∀ W v u, Nu W v A → Nu W u B → Calls Try.prog 23 #[v, u] W fun e w => e = .returned (.int .i64 (-1)) ∧ Bl W w) := fun W v u h1 h2 => by
              have c := hCmp W v u _ _ h1 h2
              rw [cmpi_lt g1] at c
              exact c
            have KY : Hid (∀ W v u, Nu W v B → Nu W u C → Calls Try.prog 23 #[v, u] W fun e w => e = .returned (.int .i64 (1)) ∧ Bl W w) := fun W v u h1 h2 => by
              have c := hCmp W v u _ _ h1 h2
              rw [cmpi_gt g2] at c
              exact c
            have KZ : Hid (∀ W v u, Nu W v A → Nu W u C → Calls Try.prog 23 #[v, u] W fun e w => e = .returned (.int .i64 (1)) ∧ Bl W w) := fun W v u h1 h2 => by
              have c := hCmp W v u _ _ h1 h2
              rw [cmpi_gt g3] at c
              exact c
            have KV : Hid (∀ W v u, Nu W v B → Nu W u A → Calls Try.prog 23 #[v, u] W fun e w => e = .returned (.int .i64 (1)) ∧ Bl W w) := fun W v u h1 h2 => by
              have c := hCmp W v u _ _ h1 h2
              rw [cmpi_gt (by omega)] at c
              exact c
            have KU : Hid (∀ W v u, Nu W v S → Nu W u T → Calls Try.prog 23 #[v, u] W fun e w => e = .returned (.int .i64 (-1)) ∧ Bl W w) := fun W v u h1 h2 => by
              have c := hCmp W v u _ _ h1 h2
              rw [cmpi_lt (by omega)] at c
              exact c
            clear ha hb hc ra rb rc eA eB eC hf hg g1 g2 g3 eS eT
            go_enter Try.func10, Try.ntmps10
            go_wp2_with (first
              | (go_at_call 11; (with_reducible refine (shown4_any hAdd hShr _).mono ?_); rintro e w1 ⟨rfl, hb'⟩; have G1 := Lib.hid hb'; clear hb')
              | (go_at_call 12; (with_reducible refine (FE.out _ (Qa.out.bl G1.out) (Qb.out.bl G1.out)).mono ?_); rintro e w' ⟨rfl, rfl⟩)
              | (go_at_call 12; (with_reducible refine (FC.out _ (Qc.out.bl G1.out) (Rw.nil _ _)).mono ?_); rintro e w' ⟨rfl, rfl⟩)
              | (go_at_call 23; (with_reducible refine (KX.out _ _ _ (Na.out.bl G1.out) (Nb.out.bl G1.out)).mono ?_); rintro e w2 ⟨rfl, hb'⟩; have G2 := Lib.hid hb'; clear hb')
              | (go_at_call 23; (with_reducible refine (KY.out _ _ _ (Nb.out.bl (G1.out.trans G2.out)) (Nc.out.bl (G1.out.trans G2.out))).mono ?_); rintro e w3 ⟨rfl, hb'⟩; have G3 := Lib.hid hb'; clear hb')
              | (go_at_call 23; (with_reducible refine (KZ.out _ _ _ (Na.out.bl (G1.out.trans (G2.out.trans G3.out))) (Nc.out.bl (G1.out.trans (G2.out.trans G3.out)))).mono ?_); rintro e w4 ⟨rfl, hb'⟩; have G4 := Lib.hid hb'; clear hb')
              | (go_at_call 23; (with_reducible refine (KV.out _ _ _ (Nb.out.bl (G1.out.trans (G2.out.trans (G3.out.trans G4.out)))) (Na.out.bl (G1.out.trans (G2.out.trans (G3.out.trans G4.out))))).mono ?_); rintro e w5 ⟨rfl, hb'⟩; have G5 := Lib.hid hb'; clear hb')
              | (go_at_call 23; (with_reducible refine (KA.out _ _ _ (Na.out.bl (G1.out.trans (G2.out.trans (G3.out.trans (G4.out.trans G5.out))))) (Na.out.bl (G1.out.trans (G2.out.trans (G3.out.trans (G4.out.trans G5.out)))))).mono ?_); rintro e w6 ⟨rfl, hb'⟩; have G6 := Lib.hid hb'; clear hb')
              | (go_at_call 19; (with_reducible refine (KS.out _ _ _ (Na.out.bl (G1.out.trans (G2.out.trans (G3.out.trans (G4.out.trans (G5.out.trans G6.out)))))) (Nc.out.bl (G1.out.trans (G2.out.trans (G3.out.trans (G4.out.trans (G5.out.trans G6.out))))))).mono ?_); rintro e w7 ⟨v1, rfl, hr, hb'⟩; have N1 := Lib.hid (Nu.dig hr sS.out (by decide)); have G7 := Lib.hid hb'; clear hr hb')
              | (go_at_call 19; (with_reducible refine (KT.out _ _ _ (Nb.out.bl (G1.out.trans (G2.out.trans (G3.out.trans (G4.out.trans (G5.out.trans (G6.out.trans G7.out))))))) (Nc.out.bl (G1.out.trans (G2.out.trans (G3.out.trans (G4.out.trans (G5.out.trans (G6.out.trans G7.out)))))))).mono ?_); rintro e w8 ⟨v2, rfl, hr, hb'⟩; have N2 := Lib.hid (Nu.dig hr sT.out (by decide)); have G8 := Lib.hid hb'; clear hr hb')
              | (go_at_call 23; (with_reducible refine (KU.out _ _ _ (N1.out.bl G8.out) N2.out).mono ?_); rintro e w9 ⟨rfl, hb'⟩; have G9 := Lib.hid hb'; clear hb'))
            go_ret
            exact ⟨rfl, (G1.out.trans (G2.out.trans (G3.out.trans (G4.out.trans (G5.out.trans (G6.out.trans (G7.out.trans (G8.out.trans G9.out))))))))⟩
      · rcases Nat.lt_trichotomy B C with g2 | g2 | g2
        · rcases Nat.lt_trichotomy A C with g3 | g3 | g3
          · skip
            have KX : Hid (∀ W v u, Nu W v A → Nu W u B → Calls Try.prog 23 #[v, u] W fun e w => e = .returned (.int .i64 (0)) ∧ Bl W w) := fun W v u h1 h2 => by
              have c := hCmp W v u _ _ h1 h2
              rw [cmpi_eq g1] at c
              exact c
            have KY : Hid (∀ W v u, Nu W v B → Nu W u C → Calls Try.prog 23 #[v, u] W fun e w => e = .returned (.int .i64 (-1)) ∧ Bl W w) := fun W v u h1 h2 => by
              have c := hCmp W v u _ _ h1 h2
              rw [cmpi_lt g2] at c
              exact c
            have KZ : Hid (∀ W v u, Nu W v A → Nu W u C → Calls Try.prog 23 #[v, u] W fun e w => e = .returned (.int .i64 (-1)) ∧ Bl W w) := fun W v u h1 h2 => by
              have c := hCmp W v u _ _ h1 h2
              rw [cmpi_lt g3] at c
              exact c
            have KV : Hid (∀ W v u, Nu W v B → Nu W u A → Calls Try.prog 23 #[v, u] W fun e w => e = .returned (.int .i64 (0)) ∧ Bl W w) := fun W v u h1 h2 => by
              have c := hCmp W v u _ _ h1 h2
              rw [cmpi_eq (by omega)] at c
              exact c
            have KU : Hid (∀ W v u, Nu W v S → Nu W u T → Calls Try.prog 23 #[v, u] W fun e w => e = .returned (.int .i64 (0)) ∧ Bl W w) := fun W v u h1 h2 => by
              have c := hCmp W v u _ _ h1 h2
              rw [cmpi_eq (by omega)] at c
              exact c
            clear ha hb hc ra rb rc eA eB eC hf hg g1 g2 g3 eS eT
            go_enter Try.func10, Try.ntmps10
            go_wp2_with (first
              | (go_at_call 11; (with_reducible refine (shown4_any hAdd hShr _).mono ?_); rintro e w1 ⟨rfl, hb'⟩; have G1 := Lib.hid hb'; clear hb')
              | (go_at_call 12; (with_reducible refine (FE.out _ (Qa.out.bl G1.out) (Qb.out.bl G1.out)).mono ?_); rintro e w' ⟨rfl, rfl⟩)
              | (go_at_call 12; (with_reducible refine (FC.out _ (Qc.out.bl G1.out) (Rw.nil _ _)).mono ?_); rintro e w' ⟨rfl, rfl⟩)
              | (go_at_call 23; (with_reducible refine (KX.out _ _ _ (Na.out.bl G1.out) (Nb.out.bl G1.out)).mono ?_); rintro e w2 ⟨rfl, hb'⟩; have G2 := Lib.hid hb'; clear hb')
              | (go_at_call 23; (with_reducible refine (KY.out _ _ _ (Nb.out.bl (G1.out.trans G2.out)) (Nc.out.bl (G1.out.trans G2.out))).mono ?_); rintro e w3 ⟨rfl, hb'⟩; have G3 := Lib.hid hb'; clear hb')
              | (go_at_call 23; (with_reducible refine (KZ.out _ _ _ (Na.out.bl (G1.out.trans (G2.out.trans G3.out))) (Nc.out.bl (G1.out.trans (G2.out.trans G3.out)))).mono ?_); rintro e w4 ⟨rfl, hb'⟩; have G4 := Lib.hid hb'; clear hb')
              | (go_at_call 23; (with_reducible refine (KV.out _ _ _ (Nb.out.bl (G1.out.trans (G2.out.trans (G3.out.trans G4.out)))) (Na.out.bl (G1.out.trans (G2.out.trans (G3.out.trans G4.out))))).mono ?_); rintro e w5 ⟨rfl, hb'⟩; have G5 := Lib.hid hb'; clear hb')
              | (go_at_call 23; (with_reducible refine (KA.out _ _ _ (Na.out.bl (G1.out.trans (G2.out.trans (G3.out.trans (G4.out.trans G5.out))))) (Na.out.bl (G1.out.trans (G2.out.trans (G3.out.trans (G4.out.trans G5.out)))))).mono ?_); rintro e w6 ⟨rfl, hb'⟩; have G6 := Lib.hid hb'; clear hb')
              | (go_at_call 19; (with_reducible refine (KS.out _ _ _ (Na.out.bl (G1.out.trans (G2.out.trans (G3.out.trans (G4.out.trans (G5.out.trans G6.out)))))) (Nc.out.bl (G1.out.trans (G2.out.trans (G3.out.trans (G4.out.trans (G5.out.trans G6.out))))))).mono ?_); rintro e w7 ⟨v1, rfl, hr, hb'⟩; have N1 := Lib.hid (Nu.dig hr sS.out (by decide)); have G7 := Lib.hid hb'; clear hr hb')
              | (go_at_call 19; (with_reducible refine (KT.out _ _ _ (Nb.out.bl (G1.out.trans (G2.out.trans (G3.out.trans (G4.out.trans (G5.out.trans (G6.out.trans G7.out))))))) (Nc.out.bl (G1.out.trans (G2.out.trans (G3.out.trans (G4.out.trans (G5.out.trans (G6.out.trans G7.out)))))))).mono ?_); rintro e w8 ⟨v2, rfl, hr, hb'⟩; have N2 := Lib.hid (Nu.dig hr sT.out (by decide)); have G8 := Lib.hid hb'; clear hr hb')
              | (go_at_call 23; (with_reducible refine (KU.out _ _ _ (N1.out.bl G8.out) N2.out).mono ?_); rintro e w9 ⟨rfl, hb'⟩; have G9 := Lib.hid hb'; clear hb'))
            go_ret
            exact ⟨rfl, (G1.out.trans (G2.out.trans (G3.out.trans (G4.out.trans (G5.out.trans (G6.out.trans (G7.out.trans (G8.out.trans G9.out))))))))⟩
          · omega
          · omega
        · rcases Nat.lt_trichotomy A C with g3 | g3 | g3
          · omega
          · skip
            have KX : Hid (∀ W v u, Nu W v A → Nu W u B → Calls Try.prog 23 #[v, u] W fun e w => e = .returned (.int .i64 (0)) ∧ Bl W w) := fun W v u h1 h2 => by
              have c := hCmp W v u _ _ h1 h2
              rw [cmpi_eq g1] at c
              exact c
            have KY : Hid (∀ W v u, Nu W v B → Nu W u C → Calls Try.prog 23 #[v, u] W fun e w => e = .returned (.int .i64 (0)) ∧ Bl W w) := fun W v u h1 h2 => by
              have c := hCmp W v u _ _ h1 h2
              rw [cmpi_eq g2] at c
              exact c
            have KZ : Hid (∀ W v u, Nu W v A → Nu W u C → Calls Try.prog 23 #[v, u] W fun e w => e = .returned (.int .i64 (0)) ∧ Bl W w) := fun W v u h1 h2 => by
              have c := hCmp W v u _ _ h1 h2
              rw [cmpi_eq g3] at c
              exact c
            have KV : Hid (∀ W v u, Nu W v B → Nu W u A → Calls Try.prog 23 #[v, u] W fun e w => e = .returned (.int .i64 (0)) ∧ Bl W w) := fun W v u h1 h2 => by
              have c := hCmp W v u _ _ h1 h2
              rw [cmpi_eq (by omega)] at c
              exact c
            have KU : Hid (∀ W v u, Nu W v S → Nu W u T → Calls Try.prog 23 #[v, u] W fun e w => e = .returned (.int .i64 (0)) ∧ Bl W w) := fun W v u h1 h2 => by
              have c := hCmp W v u _ _ h1 h2
              rw [cmpi_eq (by omega)] at c
              exact c
            clear ha hb hc ra rb rc eA eB eC hf hg g1 g2 g3 eS eT
            go_enter Try.func10, Try.ntmps10
            go_wp2_with (first
              | (go_at_call 11; (with_reducible refine (shown4_any hAdd hShr _).mono ?_); rintro e w1 ⟨rfl, hb'⟩; have G1 := Lib.hid hb'; clear hb')
              | (go_at_call 12; (with_reducible refine (FE.out _ (Qa.out.bl G1.out) (Qb.out.bl G1.out)).mono ?_); rintro e w' ⟨rfl, rfl⟩)
              | (go_at_call 12; (with_reducible refine (FC.out _ (Qc.out.bl G1.out) (Rw.nil _ _)).mono ?_); rintro e w' ⟨rfl, rfl⟩)
              | (go_at_call 23; (with_reducible refine (KX.out _ _ _ (Na.out.bl G1.out) (Nb.out.bl G1.out)).mono ?_); rintro e w2 ⟨rfl, hb'⟩; have G2 := Lib.hid hb'; clear hb')
              | (go_at_call 23; (with_reducible refine (KY.out _ _ _ (Nb.out.bl (G1.out.trans G2.out)) (Nc.out.bl (G1.out.trans G2.out))).mono ?_); rintro e w3 ⟨rfl, hb'⟩; have G3 := Lib.hid hb'; clear hb')
              | (go_at_call 23; (with_reducible refine (KZ.out _ _ _ (Na.out.bl (G1.out.trans (G2.out.trans G3.out))) (Nc.out.bl (G1.out.trans (G2.out.trans G3.out)))).mono ?_); rintro e w4 ⟨rfl, hb'⟩; have G4 := Lib.hid hb'; clear hb')
              | (go_at_call 23; (with_reducible refine (KV.out _ _ _ (Nb.out.bl (G1.out.trans (G2.out.trans (G3.out.trans G4.out)))) (Na.out.bl (G1.out.trans (G2.out.trans (G3.out.trans G4.out))))).mono ?_); rintro e w5 ⟨rfl, hb'⟩; have G5 := Lib.hid hb'; clear hb')
              | (go_at_call 23; (with_reducible refine (KA.out _ _ _ (Na.out.bl (G1.out.trans (G2.out.trans (G3.out.trans (G4.out.trans G5.out))))) (Na.out.bl (G1.out.trans (G2.out.trans (G3.out.trans (G4.out.trans G5.out)))))).mono ?_); rintro e w6 ⟨rfl, hb'⟩; have G6 := Lib.hid hb'; clear hb')
              | (go_at_call 19; (with_reducible refine (KS.out _ _ _ (Na.out.bl (G1.out.trans (G2.out.trans (G3.out.trans (G4.out.trans (G5.out.trans G6.out)))))) (Nc.out.bl (G1.out.trans (G2.out.trans (G3.out.trans (G4.out.trans (G5.out.trans G6.out))))))).mono ?_); rintro e w7 ⟨v1, rfl, hr, hb'⟩; have N1 := Lib.hid (Nu.dig hr sS.out (by decide)); have G7 := Lib.hid hb'; clear hr hb')
              | (go_at_call 19; (with_reducible refine (KT.out _ _ _ (Nb.out.bl (G1.out.trans (G2.out.trans (G3.out.trans (G4.out.trans (G5.out.trans (G6.out.trans G7.out))))))) (Nc.out.bl (G1.out.trans (G2.out.trans (G3.out.trans (G4.out.trans (G5.out.trans (G6.out.trans G7.out)))))))).mono ?_); rintro e w8 ⟨v2, rfl, hr, hb'⟩; have N2 := Lib.hid (Nu.dig hr sT.out (by decide)); have G8 := Lib.hid hb'; clear hr hb')
              | (go_at_call 23; (with_reducible refine (KU.out _ _ _ (N1.out.bl G8.out) N2.out).mono ?_); rintro e w9 ⟨rfl, hb'⟩; have G9 := Lib.hid hb'; clear hb'))
            go_ret
            exact ⟨rfl, (G1.out.trans (G2.out.trans (G3.out.trans (G4.out.trans (G5.out.trans (G6.out.trans (G7.out.trans (G8.out.trans G9.out))))))))⟩
          · omega
        · rcases Nat.lt_trichotomy A C with g3 | g3 | g3
          · omega
          · omega
          · skip
            have KX : Hid (∀ W v u, Nu W v A → Nu W u B → Calls Try.prog 23 #[v, u] W fun e w => e = .returned (.int .i64 (0)) ∧ Bl W w) := fun W v u h1 h2 => by
              have c := hCmp W v u _ _ h1 h2
              rw [cmpi_eq g1] at c
              exact c
            have KY : Hid (∀ W v u, Nu W v B → Nu W u C → Calls Try.prog 23 #[v, u] W fun e w => e = .returned (.int .i64 (1)) ∧ Bl W w) := fun W v u h1 h2 => by
              have c := hCmp W v u _ _ h1 h2
              rw [cmpi_gt g2] at c
              exact c
            have KZ : Hid (∀ W v u, Nu W v A → Nu W u C → Calls Try.prog 23 #[v, u] W fun e w => e = .returned (.int .i64 (1)) ∧ Bl W w) := fun W v u h1 h2 => by
              have c := hCmp W v u _ _ h1 h2
              rw [cmpi_gt g3] at c
              exact c
            have KV : Hid (∀ W v u, Nu W v B → Nu W u A → Calls Try.prog 23 #[v, u] W fun e w => e = .returned (.int .i64 (0)) ∧ Bl W w) := fun W v u h1 h2 => by
              have c := hCmp W v u _ _ h1 h2
              rw [cmpi_eq (by omega)] at c
              exact c
            have KU : Hid (∀ W v u, Nu W v S → Nu W u T → Calls Try.prog 23 #[v, u] W fun e w => e = .returned (.int .i64 (0)) ∧ Bl W w) := fun W v u h1 h2 => by
              have c := hCmp W v u _ _ h1 h2
              rw [cmpi_eq (by omega)] at c
              exact c
            clear ha hb hc ra rb rc eA eB eC hf hg g1 g2 g3 eS eT
            go_enter Try.func10, Try.ntmps10
            go_wp2_with (first
              | (go_at_call 11; (with_reducible refine (shown4_any hAdd hShr _).mono ?_); rintro e w1 ⟨rfl, hb'⟩; have G1 := Lib.hid hb'; clear hb')
              | (go_at_call 12; (with_reducible refine (FE.out _ (Qa.out.bl G1.out) (Qb.out.bl G1.out)).mono ?_); rintro e w' ⟨rfl, rfl⟩)
              | (go_at_call 12; (with_reducible refine (FC.out _ (Qc.out.bl G1.out) (Rw.nil _ _)).mono ?_); rintro e w' ⟨rfl, rfl⟩)
              | (go_at_call 23; (with_reducible refine (KX.out _ _ _ (Na.out.bl G1.out) (Nb.out.bl G1.out)).mono ?_); rintro e w2 ⟨rfl, hb'⟩; have G2 := Lib.hid hb'; clear hb')
              | (go_at_call 23; (with_reducible refine (KY.out _ _ _ (Nb.out.bl (G1.out.trans G2.out)) (Nc.out.bl (G1.out.trans G2.out))).mono ?_); rintro e w3 ⟨rfl, hb'⟩; have G3 := Lib.hid hb'; clear hb')
              | (go_at_call 23; (with_reducible refine (KZ.out _ _ _ (Na.out.bl (G1.out.trans (G2.out.trans G3.out))) (Nc.out.bl (G1.out.trans (G2.out.trans G3.out)))).mono ?_); rintro e w4 ⟨rfl, hb'⟩; have G4 := Lib.hid hb'; clear hb')
              | (go_at_call 23; (with_reducible refine (KV.out _ _ _ (Nb.out.bl (G1.out.trans (G2.out.trans (G3.out.trans G4.out)))) (Na.out.bl (G1.out.trans (G2.out.trans (G3.out.trans G4.out))))).mono ?_); rintro e w5 ⟨rfl, hb'⟩; have G5 := Lib.hid hb'; clear hb')
              | (go_at_call 23; (with_reducible refine (KA.out _ _ _ (Na.out.bl (G1.out.trans (G2.out.trans (G3.out.trans (G4.out.trans G5.out))))) (Na.out.bl (G1.out.trans (G2.out.trans (G3.out.trans (G4.out.trans G5.out)))))).mono ?_); rintro e w6 ⟨rfl, hb'⟩; have G6 := Lib.hid hb'; clear hb')
              | (go_at_call 19; (with_reducible refine (KS.out _ _ _ (Na.out.bl (G1.out.trans (G2.out.trans (G3.out.trans (G4.out.trans (G5.out.trans G6.out)))))) (Nc.out.bl (G1.out.trans (G2.out.trans (G3.out.trans (G4.out.trans (G5.out.trans G6.out))))))).mono ?_); rintro e w7 ⟨v1, rfl, hr, hb'⟩; have N1 := Lib.hid (Nu.dig hr sS.out (by decide)); have G7 := Lib.hid hb'; clear hr hb')
              | (go_at_call 19; (with_reducible refine (KT.out _ _ _ (Nb.out.bl (G1.out.trans (G2.out.trans (G3.out.trans (G4.out.trans (G5.out.trans (G6.out.trans G7.out))))))) (Nc.out.bl (G1.out.trans (G2.out.trans (G3.out.trans (G4.out.trans (G5.out.trans (G6.out.trans G7.out)))))))).mono ?_); rintro e w8 ⟨v2, rfl, hr, hb'⟩; have N2 := Lib.hid (Nu.dig hr sT.out (by decide)); have G8 := Lib.hid hb'; clear hr hb')
              | (go_at_call 23; (with_reducible refine (KU.out _ _ _ (N1.out.bl G8.out) N2.out).mono ?_); rintro e w9 ⟨rfl, hb'⟩; have G9 := Lib.hid hb'; clear hb'))
            go_ret
            exact ⟨rfl, (G1.out.trans (G2.out.trans (G3.out.trans (G4.out.trans (G5.out.trans (G6.out.trans (G7.out.trans (G8.out.trans G9.out))))))))⟩
      · rcases Nat.lt_trichotomy B C with g2 | g2 | g2
        · rcases Nat.lt_trichotomy A C with g3 | g3 | g3
          · skip
            have KX : Hid (∀ W v u, Nu W v A → Nu W u B → Calls Try.prog 23 #[v, u] W fun e w => e = .returned (.int .i64 (1)) ∧ Bl W w) := fun W v u h1 h2 => by
              have c := hCmp W v u _ _ h1 h2
              rw [cmpi_gt g1] at c
              exact c
            have KY : Hid (∀ W v u, Nu W v B → Nu W u C → Calls Try.prog 23 #[v, u] W fun e w => e = .returned (.int .i64 (-1)) ∧ Bl W w) := fun W v u h1 h2 => by
              have c := hCmp W v u _ _ h1 h2
              rw [cmpi_lt g2] at c
              exact c
            have KZ : Hid (∀ W v u, Nu W v A → Nu W u C → Calls Try.prog 23 #[v, u] W fun e w => e = .returned (.int .i64 (-1)) ∧ Bl W w) := fun W v u h1 h2 => by
              have c := hCmp W v u _ _ h1 h2
              rw [cmpi_lt g3] at c
              exact c
            have KV : Hid (∀ W v u, Nu W v B → Nu W u A → Calls Try.prog 23 #[v, u] W fun e w => e = .returned (.int .i64 (-1)) ∧ Bl W w) := fun W v u h1 h2 => by
              have c := hCmp W v u _ _ h1 h2
              rw [cmpi_lt (by omega)] at c
              exact c
            have KU : Hid (∀ W v u, Nu W v S → Nu W u T → Calls Try.prog 23 #[v, u] W fun e w => e = .returned (.int .i64 (1)) ∧ Bl W w) := fun W v u h1 h2 => by
              have c := hCmp W v u _ _ h1 h2
              rw [cmpi_gt (by omega)] at c
              exact c
            clear ha hb hc ra rb rc eA eB eC hf hg g1 g2 g3 eS eT
            go_enter Try.func10, Try.ntmps10
            go_wp2_with (first
              | (go_at_call 11; (with_reducible refine (shown4_any hAdd hShr _).mono ?_); rintro e w1 ⟨rfl, hb'⟩; have G1 := Lib.hid hb'; clear hb')
              | (go_at_call 12; (with_reducible refine (FE.out _ (Qa.out.bl G1.out) (Qb.out.bl G1.out)).mono ?_); rintro e w' ⟨rfl, rfl⟩)
              | (go_at_call 12; (with_reducible refine (FC.out _ (Qc.out.bl G1.out) (Rw.nil _ _)).mono ?_); rintro e w' ⟨rfl, rfl⟩)
              | (go_at_call 23; (with_reducible refine (KX.out _ _ _ (Na.out.bl G1.out) (Nb.out.bl G1.out)).mono ?_); rintro e w2 ⟨rfl, hb'⟩; have G2 := Lib.hid hb'; clear hb')
              | (go_at_call 23; (with_reducible refine (KY.out _ _ _ (Nb.out.bl (G1.out.trans G2.out)) (Nc.out.bl (G1.out.trans G2.out))).mono ?_); rintro e w3 ⟨rfl, hb'⟩; have G3 := Lib.hid hb'; clear hb')
              | (go_at_call 23; (with_reducible refine (KZ.out _ _ _ (Na.out.bl (G1.out.trans (G2.out.trans G3.out))) (Nc.out.bl (G1.out.trans (G2.out.trans G3.out)))).mono ?_); rintro e w4 ⟨rfl, hb'⟩; have G4 := Lib.hid hb'; clear hb')
              | (go_at_call 23; (with_reducible refine (KV.out _ _ _ (Nb.out.bl (G1.out.trans (G2.out.trans (G3.out.trans G4.out)))) (Na.out.bl (G1.out.trans (G2.out.trans (G3.out.trans G4.out))))).mono ?_); rintro e w5 ⟨rfl, hb'⟩; have G5 := Lib.hid hb'; clear hb')
              | (go_at_call 23; (with_reducible refine (KA.out _ _ _ (Na.out.bl (G1.out.trans (G2.out.trans (G3.out.trans (G4.out.trans G5.out))))) (Na.out.bl (G1.out.trans (G2.out.trans (G3.out.trans (G4.out.trans G5.out)))))).mono ?_); rintro e w6 ⟨rfl, hb'⟩; have G6 := Lib.hid hb'; clear hb')
              | (go_at_call 19; (with_reducible refine (KS.out _ _ _ (Na.out.bl (G1.out.trans (G2.out.trans (G3.out.trans (G4.out.trans (G5.out.trans G6.out)))))) (Nc.out.bl (G1.out.trans (G2.out.trans (G3.out.trans (G4.out.trans (G5.out.trans G6.out))))))).mono ?_); rintro e w7 ⟨v1, rfl, hr, hb'⟩; have N1 := Lib.hid (Nu.dig hr sS.out (by decide)); have G7 := Lib.hid hb'; clear hr hb')
              | (go_at_call 19; (with_reducible refine (KT.out _ _ _ (Nb.out.bl (G1.out.trans (G2.out.trans (G3.out.trans (G4.out.trans (G5.out.trans (G6.out.trans G7.out))))))) (Nc.out.bl (G1.out.trans (G2.out.trans (G3.out.trans (G4.out.trans (G5.out.trans (G6.out.trans G7.out)))))))).mono ?_); rintro e w8 ⟨v2, rfl, hr, hb'⟩; have N2 := Lib.hid (Nu.dig hr sT.out (by decide)); have G8 := Lib.hid hb'; clear hr hb')
              | (go_at_call 23; (with_reducible refine (KU.out _ _ _ (N1.out.bl G8.out) N2.out).mono ?_); rintro e w9 ⟨rfl, hb'⟩; have G9 := Lib.hid hb'; clear hb'))
            go_ret
            exact ⟨rfl, (G1.out.trans (G2.out.trans (G3.out.trans (G4.out.trans (G5.out.trans (G6.out.trans (G7.out.trans (G8.out.trans G9.out))))))))⟩
          · skip
            have KX : Hid (∀ W v u, Nu W v A → Nu W u B → Calls Try.prog 23 #[v, u] W fun e w => e = .returned (.int .i64 (1)) ∧ Bl W w) := fun W v u h1 h2 => by
              have c := hCmp W v u _ _ h1 h2
              rw [cmpi_gt g1] at c
              exact c
            have KY : Hid (∀ W v u, Nu W v B → Nu W u C → Calls Try.prog 23 #[v, u] W fun e w => e = .returned (.int .i64 (-1)) ∧ Bl W w) := fun W v u h1 h2 => by
              have c := hCmp W v u _ _ h1 h2
              rw [cmpi_lt g2] at c
              exact c
            have KZ : Hid (∀ W v u, Nu W v A → Nu W u C → Calls Try.prog 23 #[v, u] W fun e w => e = .returned (.int .i64 (0)) ∧ Bl W w) := fun W v u h1 h2 => by
              have c := hCmp W v u _ _ h1 h2
              rw [cmpi_eq g3] at c
              exact c
            have KV : Hid (∀ W v u, Nu W v B → Nu W u A → Calls Try.prog 23 #[v, u] W fun e w => e = .returned (.int .i64 (-1)) ∧ Bl W w) := fun W v u h1 h2 => by
              have c := hCmp W v u _ _ h1 h2
              rw [cmpi_lt (by omega)] at c
              exact c
            have KU : Hid (∀ W v u, Nu W v S → Nu W u T → Calls Try.prog 23 #[v, u] W fun e w => e = .returned (.int .i64 (1)) ∧ Bl W w) := fun W v u h1 h2 => by
              have c := hCmp W v u _ _ h1 h2
              rw [cmpi_gt (by omega)] at c
              exact c
            clear ha hb hc ra rb rc eA eB eC hf hg g1 g2 g3 eS eT
            go_enter Try.func10, Try.ntmps10
            go_wp2_with (first
              | (go_at_call 11; (with_reducible refine (shown4_any hAdd hShr _).mono ?_); rintro e w1 ⟨rfl, hb'⟩; have G1 := Lib.hid hb'; clear hb')
              | (go_at_call 12; (with_reducible refine (FE.out _ (Qa.out.bl G1.out) (Qb.out.bl G1.out)).mono ?_); rintro e w' ⟨rfl, rfl⟩)
              | (go_at_call 12; (with_reducible refine (FC.out _ (Qc.out.bl G1.out) (Rw.nil _ _)).mono ?_); rintro e w' ⟨rfl, rfl⟩)
              | (go_at_call 23; (with_reducible refine (KX.out _ _ _ (Na.out.bl G1.out) (Nb.out.bl G1.out)).mono ?_); rintro e w2 ⟨rfl, hb'⟩; have G2 := Lib.hid hb'; clear hb')
              | (go_at_call 23; (with_reducible refine (KY.out _ _ _ (Nb.out.bl (G1.out.trans G2.out)) (Nc.out.bl (G1.out.trans G2.out))).mono ?_); rintro e w3 ⟨rfl, hb'⟩; have G3 := Lib.hid hb'; clear hb')
              | (go_at_call 23; (with_reducible refine (KZ.out _ _ _ (Na.out.bl (G1.out.trans (G2.out.trans G3.out))) (Nc.out.bl (G1.out.trans (G2.out.trans G3.out)))).mono ?_); rintro e w4 ⟨rfl, hb'⟩; have G4 := Lib.hid hb'; clear hb')
              | (go_at_call 23; (with_reducible refine (KV.out _ _ _ (Nb.out.bl (G1.out.trans (G2.out.trans (G3.out.trans G4.out)))) (Na.out.bl (G1.out.trans (G2.out.trans (G3.out.trans G4.out))))).mono ?_); rintro e w5 ⟨rfl, hb'⟩; have G5 := Lib.hid hb'; clear hb')
              | (go_at_call 23; (with_reducible refine (KA.out _ _ _ (Na.out.bl (G1.out.trans (G2.out.trans (G3.out.trans (G4.out.trans G5.out))))) (Na.out.bl (G1.out.trans (G2.out.trans (G3.out.trans (G4.out.trans G5.out)))))).mono ?_); rintro e w6 ⟨rfl, hb'⟩; have G6 := Lib.hid hb'; clear hb')
              | (go_at_call 19; (with_reducible refine (KS.out _ _ _ (Na.out.bl (G1.out.trans (G2.out.trans (G3.out.trans (G4.out.trans (G5.out.trans G6.out)))))) (Nc.out.bl (G1.out.trans (G2.out.trans (G3.out.trans (G4.out.trans (G5.out.trans G6.out))))))).mono ?_); rintro e w7 ⟨v1, rfl, hr, hb'⟩; have N1 := Lib.hid (Nu.dig hr sS.out (by decide)); have G7 := Lib.hid hb'; clear hr hb')
              | (go_at_call 19; (with_reducible refine (KT.out _ _ _ (Nb.out.bl (G1.out.trans (G2.out.trans (G3.out.trans (G4.out.trans (G5.out.trans (G6.out.trans G7.out))))))) (Nc.out.bl (G1.out.trans (G2.out.trans (G3.out.trans (G4.out.trans (G5.out.trans (G6.out.trans G7.out)))))))).mono ?_); rintro e w8 ⟨v2, rfl, hr, hb'⟩; have N2 := Lib.hid (Nu.dig hr sT.out (by decide)); have G8 := Lib.hid hb'; clear hr hb')
              | (go_at_call 23; (with_reducible refine (KU.out _ _ _ (N1.out.bl G8.out) N2.out).mono ?_); rintro e w9 ⟨rfl, hb'⟩; have G9 := Lib.hid hb'; clear hb'))
            go_ret
            exact ⟨rfl, (G1.out.trans (G2.out.trans (G3.out.trans (G4.out.trans (G5.out.trans (G6.out.trans (G7.out.trans (G8.out.trans G9.out))))))))⟩
          · skip
            have KX : Hid (∀ W v u, Nu W v A → Nu W u B → Calls Try.prog 23 #[v, u] W fun e w => e = .returned (.int .i64 (1)) ∧ Bl W w) := fun W v u h1 h2 => by
              have c := hCmp W v u _ _ h1 h2
              rw [cmpi_gt g1] at c
              exact c
            have KY : Hid (∀ W v u, Nu W v B → Nu W u C → Calls Try.prog 23 #[v, u] W fun e w => e = .returned (.int .i64 (-1)) ∧ Bl W w) := fun W v u h1 h2 => by
              have c := hCmp W v u _ _ h1 h2
              rw [cmpi_lt g2] at c
              exact c
            have KZ : Hid (∀ W v u, Nu W v A → Nu W u C → Calls Try.prog 23 #[v, u] W fun e w => e = .returned (.int .i64 (1)) ∧ Bl W w) := fun W v u h1 h2 => by
              have c := hCmp W v u _ _ h1 h2
              rw [cmpi_gt g3] at c
              exact c
            have KV : Hid (∀ W v u, Nu W v B → Nu W u A → Calls Try.prog 23 #[v, u] W fun e w => e = .returned (.int .i64 (-1)) ∧ Bl W w) := fun W v u h1 h2 => by
              have c := hCmp W v u _ _ h1 h2
              rw [cmpi_lt (by omega)] at c
              exact c
            have KU : Hid (∀ W v u, Nu W v S → Nu W u T → Calls Try.prog 23 #[v, u] W fun e w => e = .returned (.int .i64 (1)) ∧ Bl W w) := fun W v u h1 h2 => by
              have c := hCmp W v u _ _ h1 h2
              rw [cmpi_gt (by omega)] at c
              exact c
            clear ha hb hc ra rb rc eA eB eC hf hg g1 g2 g3 eS eT
            go_enter Try.func10, Try.ntmps10
            go_wp2_with (first
              | (go_at_call 11; (with_reducible refine (shown4_any hAdd hShr _).mono ?_); rintro e w1 ⟨rfl, hb'⟩; have G1 := Lib.hid hb'; clear hb')
              | (go_at_call 12; (with_reducible refine (FE.out _ (Qa.out.bl G1.out) (Qb.out.bl G1.out)).mono ?_); rintro e w' ⟨rfl, rfl⟩)
              | (go_at_call 12; (with_reducible refine (FC.out _ (Qc.out.bl G1.out) (Rw.nil _ _)).mono ?_); rintro e w' ⟨rfl, rfl⟩)
              | (go_at_call 23; (with_reducible refine (KX.out _ _ _ (Na.out.bl G1.out) (Nb.out.bl G1.out)).mono ?_); rintro e w2 ⟨rfl, hb'⟩; have G2 := Lib.hid hb'; clear hb')
              | (go_at_call 23; (with_reducible refine (KY.out _ _ _ (Nb.out.bl (G1.out.trans G2.out)) (Nc.out.bl (G1.out.trans G2.out))).mono ?_); rintro e w3 ⟨rfl, hb'⟩; have G3 := Lib.hid hb'; clear hb')
              | (go_at_call 23; (with_reducible refine (KZ.out _ _ _ (Na.out.bl (G1.out.trans (G2.out.trans G3.out))) (Nc.out.bl (G1.out.trans (G2.out.trans G3.out)))).mono ?_); rintro e w4 ⟨rfl, hb'⟩; have G4 := Lib.hid hb'; clear hb')
              | (go_at_call 23; (with_reducible refine (KV.out _ _ _ (Nb.out.bl (G1.out.trans (G2.out.trans (G3.out.trans G4.out)))) (Na.out.bl (G1.out.trans (G2.out.trans (G3.out.trans G4.out))))).mono ?_); rintro e w5 ⟨rfl, hb'⟩; have G5 := Lib.hid hb'; clear hb')
              | (go_at_call 23; (with_reducible refine (KA.out _ _ _ (Na.out.bl (G1.out.trans (G2.out.trans (G3.out.trans (G4.out.trans G5.out))))) (Na.out.bl (G1.out.trans (G2.out.trans (G3.out.trans (G4.out.trans G5.out)))))).mono ?_); rintro e w6 ⟨rfl, hb'⟩; have G6 := Lib.hid hb'; clear hb')
              | (go_at_call 19; (with_reducible refine (KS.out _ _ _ (Na.out.bl (G1.out.trans (G2.out.trans (G3.out.trans (G4.out.trans (G5.out.trans G6.out)))))) (Nc.out.bl (G1.out.trans (G2.out.trans (G3.out.trans (G4.out.trans (G5.out.trans G6.out))))))).mono ?_); rintro e w7 ⟨v1, rfl, hr, hb'⟩; have N1 := Lib.hid (Nu.dig hr sS.out (by decide)); have G7 := Lib.hid hb'; clear hr hb')
              | (go_at_call 19; (with_reducible refine (KT.out _ _ _ (Nb.out.bl (G1.out.trans (G2.out.trans (G3.out.trans (G4.out.trans (G5.out.trans (G6.out.trans G7.out))))))) (Nc.out.bl (G1.out.trans (G2.out.trans (G3.out.trans (G4.out.trans (G5.out.trans (G6.out.trans G7.out)))))))).mono ?_); rintro e w8 ⟨v2, rfl, hr, hb'⟩; have N2 := Lib.hid (Nu.dig hr sT.out (by decide)); have G8 := Lib.hid hb'; clear hr hb')
              | (go_at_call 23; (with_reducible refine (KU.out _ _ _ (N1.out.bl G8.out) N2.out).mono ?_); rintro e w9 ⟨rfl, hb'⟩; have G9 := Lib.hid hb'; clear hb'))
            go_ret
            exact ⟨rfl, (G1.out.trans (G2.out.trans (G3.out.trans (G4.out.trans (G5.out.trans (G6.out.trans (G7.out.trans (G8.out.trans G9.out))))))))⟩
        · rcases Nat.lt_trichotomy A C with g3 | g3 | g3
          · omega
          · omega
          · skip
            have KX : Hid (∀ W v u, Nu W v A → Nu W u B → Calls Try.prog 23 #[v, u] W fun e w => e = .returned (.int .i64 (1)) ∧ Bl W w) := fun W v u h1 h2 => by
              have c := hCmp W v u _ _ h1 h2
              rw [cmpi_gt g1] at c
              exact c
            have KY : Hid (∀ W v u, Nu W v B → Nu W u C → Calls Try.prog 23 #[v, u] W fun e w => e = .returned (.int .i64 (0)) ∧ Bl W w) := fun W v u h1 h2 => by
              have c := hCmp W v u _ _ h1 h2
              rw [cmpi_eq g2] at c
              exact c
            have KZ : Hid (∀ W v u, Nu W v A → Nu W u C → Calls Try.prog 23 #[v, u] W fun e w => e = .returned (.int .i64 (1)) ∧ Bl W w) := fun W v u h1 h2 => by
              have c := hCmp W v u _ _ h1 h2
              rw [cmpi_gt g3] at c
              exact c
            have KV : Hid (∀ W v u, Nu W v B → Nu W u A → Calls Try.prog 23 #[v, u] W fun e w => e = .returned (.int .i64 (-1)) ∧ Bl W w) := fun W v u h1 h2 => by
              have c := hCmp W v u _ _ h1 h2
              rw [cmpi_lt (by omega)] at c
              exact c
            have KU : Hid (∀ W v u, Nu W v S → Nu W u T → Calls Try.prog 23 #[v, u] W fun e w => e = .returned (.int .i64 (1)) ∧ Bl W w) := fun W v u h1 h2 => by
              have c := hCmp W v u _ _ h1 h2
              rw [cmpi_gt (by omega)] at c
              exact c
            clear ha hb hc ra rb rc eA eB eC hf hg g1 g2 g3 eS eT
            go_enter Try.func10, Try.ntmps10
            go_wp2_with (first
              | (go_at_call 11; (with_reducible refine (shown4_any hAdd hShr _).mono ?_); rintro e w1 ⟨rfl, hb'⟩; have G1 := Lib.hid hb'; clear hb')
              | (go_at_call 12; (with_reducible refine (FE.out _ (Qa.out.bl G1.out) (Qb.out.bl G1.out)).mono ?_); rintro e w' ⟨rfl, rfl⟩)
              | (go_at_call 12; (with_reducible refine (FC.out _ (Qc.out.bl G1.out) (Rw.nil _ _)).mono ?_); rintro e w' ⟨rfl, rfl⟩)
              | (go_at_call 23; (with_reducible refine (KX.out _ _ _ (Na.out.bl G1.out) (Nb.out.bl G1.out)).mono ?_); rintro e w2 ⟨rfl, hb'⟩; have G2 := Lib.hid hb'; clear hb')
              | (go_at_call 23; (with_reducible refine (KY.out _ _ _ (Nb.out.bl (G1.out.trans G2.out)) (Nc.out.bl (G1.out.trans G2.out))).mono ?_); rintro e w3 ⟨rfl, hb'⟩; have G3 := Lib.hid hb'; clear hb')
              | (go_at_call 23; (with_reducible refine (KZ.out _ _ _ (Na.out.bl (G1.out.trans (G2.out.trans G3.out))) (Nc.out.bl (G1.out.trans (G2.out.trans G3.out)))).mono ?_); rintro e w4 ⟨rfl, hb'⟩; have G4 := Lib.hid hb'; clear hb')
              | (go_at_call 23; (with_reducible refine (KV.out _ _ _ (Nb.out.bl (G1.out.trans (G2.out.trans (G3.out.trans G4.out)))) (Na.out.bl (G1.out.trans (G2.out.trans (G3.out.trans G4.out))))).mono ?_); rintro e w5 ⟨rfl, hb'⟩; have G5 := Lib.hid hb'; clear hb')
              | (go_at_call 23; (with_reducible refine (KA.out _ _ _ (Na.out.bl (G1.out.trans (G2.out.trans (G3.out.trans (G4.out.trans G5.out))))) (Na.out.bl (G1.out.trans (G2.out.trans (G3.out.trans (G4.out.trans G5.out)))))).mono ?_); rintro e w6 ⟨rfl, hb'⟩; have G6 := Lib.hid hb'; clear hb')
              | (go_at_call 19; (with_reducible refine (KS.out _ _ _ (Na.out.bl (G1.out.trans (G2.out.trans (G3.out.trans (G4.out.trans (G5.out.trans G6.out)))))) (Nc.out.bl (G1.out.trans (G2.out.trans (G3.out.trans (G4.out.trans (G5.out.trans G6.out))))))).mono ?_); rintro e w7 ⟨v1, rfl, hr, hb'⟩; have N1 := Lib.hid (Nu.dig hr sS.out (by decide)); have G7 := Lib.hid hb'; clear hr hb')
              | (go_at_call 19; (with_reducible refine (KT.out _ _ _ (Nb.out.bl (G1.out.trans (G2.out.trans (G3.out.trans (G4.out.trans (G5.out.trans (G6.out.trans G7.out))))))) (Nc.out.bl (G1.out.trans (G2.out.trans (G3.out.trans (G4.out.trans (G5.out.trans (G6.out.trans G7.out)))))))).mono ?_); rintro e w8 ⟨v2, rfl, hr, hb'⟩; have N2 := Lib.hid (Nu.dig hr sT.out (by decide)); have G8 := Lib.hid hb'; clear hr hb')
              | (go_at_call 23; (with_reducible refine (KU.out _ _ _ (N1.out.bl G8.out) N2.out).mono ?_); rintro e w9 ⟨rfl, hb'⟩; have G9 := Lib.hid hb'; clear hb'))
            go_ret
            exact ⟨rfl, (G1.out.trans (G2.out.trans (G3.out.trans (G4.out.trans (G5.out.trans (G6.out.trans (G7.out.trans (G8.out.trans G9.out))))))))⟩
        · rcases Nat.lt_trichotomy A C with g3 | g3 | g3
          · omega
          · omega
          · skip
            have KX : Hid (∀ W v u, Nu W v A → Nu W u B → Calls Try.prog 23 #[v, u] W fun e w => e = .returned (.int .i64 (1)) ∧ Bl W w) := fun W v u h1 h2 => by
              have c := hCmp W v u _ _ h1 h2
              rw [cmpi_gt g1] at c
              exact c
            have KY : Hid (∀ W v u, Nu W v B → Nu W u C → Calls Try.prog 23 #[v, u] W fun e w => e = .returned (.int .i64 (1)) ∧ Bl W w) := fun W v u h1 h2 => by
              have c := hCmp W v u _ _ h1 h2
              rw [cmpi_gt g2] at c
              exact c
            have KZ : Hid (∀ W v u, Nu W v A → Nu W u C → Calls Try.prog 23 #[v, u] W fun e w => e = .returned (.int .i64 (1)) ∧ Bl W w) := fun W v u h1 h2 => by
              have c := hCmp W v u _ _ h1 h2
              rw [cmpi_gt g3] at c
              exact c
            have KV : Hid (∀ W v u, Nu W v B → Nu W u A → Calls Try.prog 23 #[v, u] W fun e w => e = .returned (.int .i64 (-1)) ∧ Bl W w) := fun W v u h1 h2 => by
              have c := hCmp W v u _ _ h1 h2
              rw [cmpi_lt (by omega)] at c
              exact c
            have KU : Hid (∀ W v u, Nu W v S → Nu W u T → Calls Try.prog 23 #[v, u] W fun e w => e = .returned (.int .i64 (1)) ∧ Bl W w) := fun W v u h1 h2 => by
              have c := hCmp W v u _ _ h1 h2
              rw [cmpi_gt (by omega)] at c
              exact c
            clear ha hb hc ra rb rc eA eB eC hf hg g1 g2 g3 eS eT
            go_enter Try.func10, Try.ntmps10
            go_wp2_with (first
              | (go_at_call 11; (with_reducible refine (shown4_any hAdd hShr _).mono ?_); rintro e w1 ⟨rfl, hb'⟩; have G1 := Lib.hid hb'; clear hb')
              | (go_at_call 12; (with_reducible refine (FE.out _ (Qa.out.bl G1.out) (Qb.out.bl G1.out)).mono ?_); rintro e w' ⟨rfl, rfl⟩)
              | (go_at_call 12; (with_reducible refine (FC.out _ (Qc.out.bl G1.out) (Rw.nil _ _)).mono ?_); rintro e w' ⟨rfl, rfl⟩)
              | (go_at_call 23; (with_reducible refine (KX.out _ _ _ (Na.out.bl G1.out) (Nb.out.bl G1.out)).mono ?_); rintro e w2 ⟨rfl, hb'⟩; have G2 := Lib.hid hb'; clear hb')
              | (go_at_call 23; (with_reducible refine (KY.out _ _ _ (Nb.out.bl (G1.out.trans G2.out)) (Nc.out.bl (G1.out.trans G2.out))).mono ?_); rintro e w3 ⟨rfl, hb'⟩; have G3 := Lib.hid hb'; clear hb')
              | (go_at_call 23; (with_reducible refine (KZ.out _ _ _ (Na.out.bl (G1.out.trans (G2.out.trans G3.out))) (Nc.out.bl (G1.out.trans (G2.out.trans G3.out)))).mono ?_); rintro e w4 ⟨rfl, hb'⟩; have G4 := Lib.hid hb'; clear hb')
              | (go_at_call 23; (with_reducible refine (KV.out _ _ _ (Nb.out.bl (G1.out.trans (G2.out.trans (G3.out.trans G4.out)))) (Na.out.bl (G1.out.trans (G2.out.trans (G3.out.trans G4.out))))).mono ?_); rintro e w5 ⟨rfl, hb'⟩; have G5 := Lib.hid hb'; clear hb')
              | (go_at_call 23; (with_reducible refine (KA.out _ _ _ (Na.out.bl (G1.out.trans (G2.out.trans (G3.out.trans (G4.out.trans G5.out))))) (Na.out.bl (G1.out.trans (G2.out.trans (G3.out.trans (G4.out.trans G5.out)))))).mono ?_); rintro e w6 ⟨rfl, hb'⟩; have G6 := Lib.hid hb'; clear hb')
              | (go_at_call 19; (with_reducible refine (KS.out _ _ _ (Na.out.bl (G1.out.trans (G2.out.trans (G3.out.trans (G4.out.trans (G5.out.trans G6.out)))))) (Nc.out.bl (G1.out.trans (G2.out.trans (G3.out.trans (G4.out.trans (G5.out.trans G6.out))))))).mono ?_); rintro e w7 ⟨v1, rfl, hr, hb'⟩; have N1 := Lib.hid (Nu.dig hr sS.out (by decide)); have G7 := Lib.hid hb'; clear hr hb')
              | (go_at_call 19; (with_reducible refine (KT.out _ _ _ (Nb.out.bl (G1.out.trans (G2.out.trans (G3.out.trans (G4.out.trans (G5.out.trans (G6.out.trans G7.out))))))) (Nc.out.bl (G1.out.trans (G2.out.trans (G3.out.trans (G4.out.trans (G5.out.trans (G6.out.trans G7.out)))))))).mono ?_); rintro e w8 ⟨v2, rfl, hr, hb'⟩; have N2 := Lib.hid (Nu.dig hr sT.out (by decide)); have G8 := Lib.hid hb'; clear hr hb')
              | (go_at_call 23; (with_reducible refine (KU.out _ _ _ (N1.out.bl G8.out) N2.out).mono ?_); rintro e w9 ⟨rfl, hb'⟩; have G9 := Lib.hid hb'; clear hb'))
            go_ret
            exact ⟨rfl, (G1.out.trans (G2.out.trans (G3.out.trans (G4.out.trans (G5.out.trans (G6.out.trans (G7.out.trans (G8.out.trans G9.out))))))))⟩
    · have FE := Lib.hid (fun W h1 h2 => few_yes va vb la lb hf.1 hf.2 W h1 h2)
      have FC := Lib.hid (fun W h1 h2 => few_no vc (.slice none 0 0) lc [] (fun h => hg h.1) (rw_len rc) (by simp) W h1 h2)
      have Qa := Lib.hid ra
      have Qb := Lib.hid rb
      have Qc := Lib.hid rc
      clear ha hb hc ra rb rc hf hg
      go_enter Try.func10, Try.ntmps10
      go_wp2_with (first
        | (go_at_call 11; (with_reducible refine (shown4_any hAdd hShr _).mono ?_); rintro e w1 ⟨rfl, hb'⟩; have G1 := Lib.hid hb'; clear hb')
        | (go_at_call 12; (with_reducible refine (FE.out _ (Qa.out.bl G1.out) (Qb.out.bl G1.out)).mono ?_); rintro e w' ⟨rfl, rfl⟩)
        | (go_at_call 12; (with_reducible refine (FC.out _ (Qc.out.bl G1.out) (Rw.nil _ _)).mono ?_); rintro e w' ⟨rfl, rfl⟩))
      go_ret
      exact ⟨rfl, G1.out⟩
  · skip
    have FE := Lib.hid (fun W h1 h2 => few_no va vb la lb hf (rw_len ra) (rw_len rb) W h1 h2)
    have Qa := Lib.hid ra
    have Qb := Lib.hid rb
    clear ha hb hc ra rb rc hf
    go_enter Try.func10, Try.ntmps10
    go_wp2_with (first
      | (go_at_call 11; (with_reducible refine (shown4_any hAdd hShr _).mono ?_); rintro e w1 ⟨rfl, hb'⟩; have G1 := Lib.hid hb'; clear hb')
      | (go_at_call 12; (with_reducible refine (FE.out _ (Qa.out.bl G1.out) (Qb.out.bl G1.out)).mono ?_); rintro e w' ⟨rfl, rfl⟩))
    go_ret
    exact ⟨rfl, G1.out⟩
end Go.Proofs.Ytdbmfbfdiadiaaa
