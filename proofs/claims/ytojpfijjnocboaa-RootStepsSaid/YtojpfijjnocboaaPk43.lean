/-
  The walk of RootSteps.
-/
import Derived.Test.YtojpfijjnocboaaPk42
namespace Go.Proofs.Ytojpfijjnocboaa
open Go.RowKit
set_option linter.unusedVariables false
set_option linter.unusedSimpArgs false

set_option maxRecDepth 100000 in
set_option maxHeartbeats 8000000 in
theorem rootSteps_walk (vx : Value) (lx : List Nat) (va : Value) (la : List Nat) (hx : All 18446744073709551616 lx) (ha : All 18446744073709551616 la) (w : World) (rx : Rw .u64 w vx lx) (ra : Rw .u64 w va la) :
    Calls Try.prog 4 #[vx, va] w fun e w' => e = .returned (.bool true) ∧ Bl w w' := by
  obtain ⟨nx, hnx⟩ : ∃ n, lx.length = n := ⟨_, rfl⟩
  have hlx := rw_len rx
  obtain ⟨Zx, kx, evx⟩ := rw_shape rx hnx
  subst evx
  rw [hnx] at hlx
  have ibx : (nx : Int) ≤ 9223372036854775807 := by omega
  obtain ⟨na, hna⟩ : ∃ n, la.length = n := ⟨_, rfl⟩
  have hla := rw_len ra
  obtain ⟨Za, ka, eva⟩ := rw_shape ra hna
  subst eva
  rw [hna] at hla
  have iba : (na : Int) ≤ 9223372036854775807 := by omega
  by_cases hf : 30 < nx
  · skip
    have d1x : decide ((30 : Int) < (nx : Int)) = true := decide_eq_true (by omega)
    have d2x : decide (30 < nx) = true := decide_eq_true (by omega)
    clear hx ha rx ra hnx hna hlx hla hf
    go_enter Try.func4, Try.ntmps4
    go_wp2_with (first
      | (go_at_call 10; (with_reducible refine (shown12_any _).mono ?_); rintro e w1 ⟨rfl, hb'⟩; have G1 := Lib.hid hb'; clear hb'))
    go_ret
    exact ⟨rfl, G1.out⟩
  have d1x : decide ((30 : Int) < (nx : Int)) = false := decide_eq_false (by omega)
  have d2x : decide (30 < nx) = false := decide_eq_false (by omega)
  by_cases hg : 30 < na
  · skip
    have d1a : decide ((30 : Int) < (na : Int)) = true := decide_eq_true (by omega)
    have d2a : decide (30 < na) = true := decide_eq_true (by omega)
    clear hx ha rx ra hnx hna hlx hla hf hg
    go_enter Try.func4, Try.ntmps4
    go_wp2_with (first
      | (go_at_call 10; (with_reducible refine (shown12_any _).mono ?_); rintro e w1 ⟨rfl, hb'⟩; have G1 := Lib.hid hb'; clear hb'))
    go_ret
    exact ⟨rfl, G1.out⟩
  have d1a : decide ((30 : Int) < (na : Int)) = false := decide_eq_false (by omega)
  have d2a : decide (30 < na) = false := decide_eq_false (by omega)
  have Nx : Hid (Nu w (.slice Zx nx kx) (val 18446744073709551616 lx)) := Nu.mk rx hx (by omega)
  have sX := Lib.hid (Sz.of_val hx (k := 30) (by omega))
  obtain ⟨X, eX⟩ : ∃ x, val 18446744073709551616 lx = x := ⟨_, rfl⟩
  rw [eX] at Nx sX
  have Na : Hid (Nu w (.slice Za na ka) (val 18446744073709551616 la)) := Nu.mk ra ha (by omega)
  have sA := Lib.hid (Sz.of_val ha (k := 30) (by omega))
  obtain ⟨A, eA⟩ : ∃ x, val 18446744073709551616 la = x := ⟨_, rfl⟩
  rw [eA] at Na sA
  obtain ⟨F, eF⟩ : ∃ yy, fst A = yy := ⟨_, rfl⟩
  have sF : Hid (Sz 31 F) := (by rw [← eF]; exact sz_fst sA.out)
  have K3 : Hid (∀ W v, Nu W v A → Calls Try.prog 20 #[v] W (RwEnd .u64 W (dig 18446744073709551616 F))) := fun W v h0 => by
    have c := pFirst W v A h0
    rw [eF] at c
    exact c
  have K4 : Hid (∀ W v, Nu W v A → Calls Try.prog 21 #[v] W (RwEnd .u64 W (dig 18446744073709551616 F))) := fun W v h0 => by
    have c := r12first_any W v A h0 (sA.out.mono (by decide))
    rw [eF] at c
    exact c
  have E2 := Lib.hid (kSame F (sF.out.sd (by decide)))
  by_cases hX : X = 0
  · subst hX
    have K1 : Hid (∀ W v u, Nu W v 0 → Nu W u A → Calls Try.prog 18 #[v, u] W (RwErr .u64 W [] 2)) := fun W v u h0 h1 => by
      have c := pStep0 W v u A h0 h1
      exact c
    have K2 : Hid (∀ W v u, Nu W v 0 → Nu W u A → Calls Try.prog 19 #[v, u] W (RwErr .u64 W [] 2)) := fun W v u h0 h1 => by
      have c := r12step0_any W v u h0
      exact c
    have E1 := Lib.hid kSame0
    clear hx ha rx ra hnx hna hlx hla hf hg eX eA eF
    go_enter Try.func4, Try.ntmps4
    go_wp2_with (first
      | (go_at_call 10; (with_reducible refine (shown12_any _).mono ?_); rintro e w1 ⟨rfl, hb'⟩; have G1 := Lib.hid hb'; clear hb')
      | (go_at_call 18; (with_reducible refine (K1.out _ _ _ (Nx.out.bl G1.out) (Na.out.bl G1.out)).mono ?_); rintro e w2 ⟨y, rfl, hr, hb'⟩; have Ry := Lib.hid (hr); have G2 := Lib.hid hb'; clear hr hb')
      | (go_at_call 19; (with_reducible refine (K2.out _ _ _ (Nx.out.bl (G1.out.trans G2.out)) (Na.out.bl (G1.out.trans G2.out))).mono ?_); rintro e w3 ⟨z, rfl, hr, hb'⟩; have Rz := Lib.hid (hr); have G3 := Lib.hid hb'; clear hr hb')
      | (go_at_call 16; (with_reducible refine (E1.out _ _ _ (Ry.out.bl G3.out) Rz.out).mono ?_); rintro e w4 ⟨rfl, hb'⟩; have G4 := Lib.hid hb'; clear hb')
      | (go_at_call 20; (with_reducible refine (K3.out _ _ (Na.out.bl (G1.out.trans (G2.out.trans (G3.out.trans G4.out))))).mono ?_); rintro e w5 ⟨f, rfl, hr, hb'⟩; have Rf := Lib.hid (hr); have G5 := Lib.hid hb'; clear hr hb')
      | (go_at_call 21; (with_reducible refine (K4.out _ _ (Na.out.bl (G1.out.trans (G2.out.trans (G3.out.trans (G4.out.trans G5.out)))))).mono ?_); rintro e w6 ⟨g, rfl, hr, hb'⟩; have Rg := Lib.hid (hr); have G6 := Lib.hid hb'; clear hr hb')
      | (go_at_call 16; (with_reducible refine (E2.out _ _ _ (Rf.out.bl G6.out) Rg.out).mono ?_); rintro e w7 ⟨rfl, hb'⟩; have G7 := Lib.hid hb'; clear hb'))
    go_ret
    exact ⟨rfl, (G1.out.trans (G2.out.trans (G3.out.trans (G4.out.trans (G5.out.trans (G6.out.trans G7.out))))))⟩
  · skip
    have hp : 0 < X := Nat.pos_of_ne_zero hX
    obtain ⟨Z, eZ⟩ : ∃ yy, nwt A X = yy := ⟨_, rfl⟩
    have sZ : Hid (Sz 30 Z) := (by rw [← eZ]; exact sz_nwt sA.out sX.out)
    have K1 : Hid (∀ W v u, Nu W v X → Nu W u A → Calls Try.prog 18 #[v, u] W (RwErr .u64 W (dig 18446744073709551616 Z) 0)) := fun W v u h0 h1 => by
      have c := pStep W v u A X 30 h0 h1 sX.out sA.out (by decide) hp
      rw [eZ] at c
      exact c
    have K2 : Hid (∀ W v u, Nu W v X → Nu W u A → Calls Try.prog 19 #[v, u] W (RwErr .u64 W (dig 18446744073709551616 Z) 0)) := fun W v u h0 h1 => by
      have c := r12step_any W v u A X h0 h1 (sX.out.mono (by decide)) (sA.out.mono (by decide)) hp
      rw [eZ] at c
      exact c
    have E1 := Lib.hid (kSame Z (sZ.out.sd (by decide)))
    clear hx ha rx ra hnx hna hlx hla hf hg eX eA eF hX hp eZ
    go_enter Try.func4, Try.ntmps4
    go_wp2_with (first
      | (go_at_call 10; (with_reducible refine (shown12_any _).mono ?_); rintro e w1 ⟨rfl, hb'⟩; have G1 := Lib.hid hb'; clear hb')
      | (go_at_call 18; (with_reducible refine (K1.out _ _ _ (Nx.out.bl G1.out) (Na.out.bl G1.out)).mono ?_); rintro e w2 ⟨y, rfl, hr, hb'⟩; have Ry := Lib.hid (hr); have G2 := Lib.hid hb'; clear hr hb')
      | (go_at_call 19; (with_reducible refine (K2.out _ _ _ (Nx.out.bl (G1.out.trans G2.out)) (Na.out.bl (G1.out.trans G2.out))).mono ?_); rintro e w3 ⟨z, rfl, hr, hb'⟩; have Rz := Lib.hid (hr); have G3 := Lib.hid hb'; clear hr hb')
      | (go_at_call 16; (with_reducible refine (E1.out _ _ _ (Ry.out.bl G3.out) Rz.out).mono ?_); rintro e w4 ⟨rfl, hb'⟩; have G4 := Lib.hid hb'; clear hb')
      | (go_at_call 20; (with_reducible refine (K3.out _ _ (Na.out.bl (G1.out.trans (G2.out.trans (G3.out.trans G4.out))))).mono ?_); rintro e w5 ⟨f, rfl, hr, hb'⟩; have Rf := Lib.hid (hr); have G5 := Lib.hid hb'; clear hr hb')
      | (go_at_call 21; (with_reducible refine (K4.out _ _ (Na.out.bl (G1.out.trans (G2.out.trans (G3.out.trans (G4.out.trans G5.out)))))).mono ?_); rintro e w6 ⟨g, rfl, hr, hb'⟩; have Rg := Lib.hid (hr); have G6 := Lib.hid hb'; clear hr hb')
      | (go_at_call 16; (with_reducible refine (E2.out _ _ _ (Rf.out.bl G6.out) Rg.out).mono ?_); rintro e w7 ⟨rfl, hb'⟩; have G7 := Lib.hid hb'; clear hb'))
    go_ret
    exact ⟨rfl, (G1.out.trans (G2.out.trans (G3.out.trans (G4.out.trans (G5.out.trans (G6.out.trans G7.out))))))⟩
end Go.Proofs.Ytojpfijjnocboaa
