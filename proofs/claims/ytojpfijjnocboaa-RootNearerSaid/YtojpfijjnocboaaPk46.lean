/-
  The walk of RootNearer.
-/
import Derived.Test.YtojpfijjnocboaaPk42
namespace Go.Proofs.Ytojpfijjnocboaa
open Go.RowKit
set_option linter.unusedVariables false
set_option linter.unusedSimpArgs false

set_option maxRecDepth 100000 in
set_option maxHeartbeats 8000000 in
theorem rootNearer_walk (vx : Value) (lx : List Nat) (va : Value) (la : List Nat) (hx : All 18446744073709551616 lx) (ha : All 18446744073709551616 la) (w : World) (rx : Rw .u64 w vx lx) (ra : Rw .u64 w va la) :
    Calls Try.prog 7 #[vx, va] w fun e w' => e = .returned (.bool true) ∧ Bl w w' := by
  obtain ⟨nx, hnx⟩ : ∃ n, lx.length = n := ⟨_, rfl⟩
  have hlx := rw_len rx
  obtain ⟨Zx, kx, evx⟩ := rw_shape rx hnx
  subst evx
  rw [hnx] at hlx
  have ibx : (nx : Int) ≤ 9223372036854775807 := by omega
  obtain ⟨na, hna⟩ : ∃ n, la.length = n := ⟨_, rfl⟩
  have hla := rw_len ra
  obtain ⟨Za, ka, eva⟩ := rw_shape ra hna
  subst eva
  rw [hna] at hla
  have iba : (na : Int) ≤ 9223372036854775807 := by omega
  by_cases hf : 30 < nx
  · skip
    have d1x : decide ((30 : Int) < (nx : Int)) = true := decide_eq_true (by omega)
    have d2x : decide (30 < nx) = true := decide_eq_true (by omega)
    clear hx ha rx ra hnx hna hlx hla hf
    go_enter Try.func7, Try.ntmps7
    go_wp2_with (first
      | (go_at_call 10; (with_reducible refine (shown12_any _).mono ?_); rintro e w1 ⟨rfl, hb'⟩; have G1 := Lib.hid hb'; clear hb'))
    go_ret
    exact ⟨rfl, G1.out⟩
  have d1x : decide ((30 : Int) < (nx : Int)) = false := decide_eq_false (by omega)
  have d2x : decide (30 < nx) = false := decide_eq_false (by omega)
  by_cases hg : 30 < na
  · skip
    have d1a : decide ((30 : Int) < (na : Int)) = true := decide_eq_true (by omega)
    have d2a : decide (30 < na) = true := decide_eq_true (by omega)
    clear hx ha rx ra hnx hna hlx hla hf hg
    go_enter Try.func7, Try.ntmps7
    go_wp2_with (first
      | (go_at_call 10; (with_reducible refine (shown12_any _).mono ?_); rintro e w1 ⟨rfl, hb'⟩; have G1 := Lib.hid hb'; clear hb'))
    go_ret
    exact ⟨rfl, G1.out⟩
  have d1a : decide ((30 : Int) < (na : Int)) = false := decide_eq_false (by omega)
  have d2a : decide (30 < na) = false := decide_eq_false (by omega)
  have Nx : Hid (Nu w (.slice Zx nx kx) (val 18446744073709551616 lx)) := Nu.mk rx hx (by omega)
  have sX := Lib.hid (Sz.of_val hx (k := 30) (by omega))
  obtain ⟨X, eX⟩ : ∃ x, val 18446744073709551616 lx = x := ⟨_, rfl⟩
  rw [eX] at Nx sX
  have Na : Hid (Nu w (.slice Za na ka) (val 18446744073709551616 la)) := Nu.mk ra ha (by omega)
  have sA := Lib.hid (Sz.of_val ha (k := 30) (by omega))
  obtain ⟨A, eA⟩ : ∃ x, val 18446744073709551616 la = x := ⟨_, rfl⟩
  rw [eA] at Na sA
  obtain ⟨I, eI⟩ : ∃ yy, isq A = yy := ⟨_, rfl⟩
  have sI : Hid (Sz 30 I) := (by rw [← eI]; exact sA.out.le (isq_self A))
  obtain ⟨R, eR⟩ : ∃ yy, A - I * I = yy := ⟨_, rfl⟩
  have K1 : Hid (∀ W v, Nu W v A → Calls Try.prog 11 #[v] W (RwEnd2 .u64 W (dig 18446744073709551616 I) (dig 18446744073709551616 R))) := fun W v h0 => by
    have c := pSqrt W v A 30 h0 sA.out (by decide)
    rw [eI, eR] at c
    exact c
  have D2 : Hid (∀ W v, Nu W v I → Calls Try.prog 14 #[v] W (RwEnd .i64 W (dig 65536 I))) := fun W v h0 => by
    have c := kDg h0
    exact c
  by_cases hX : X = 0
  · subst hX
    have D1 : Hid (∀ W v, Nu W v 0 → Calls Try.prog 14 #[v] W (RwEnd .i64 W (dig 65536 0))) := fun W v h0 => by
      have c := kDg h0
      exact c
    have K2 : Hid (∀ W v u, Nu W v 0 → Nu W u A → Calls Try.prog 18 #[v, u] W (RwErr .u64 W [] 2)) := fun W v u h0 h1 => by
      have c := pStep0 W v u A h0 h1
      exact c
    have LN : Hid ((dig 65536 0).length = 0) := rfl
    clear hx ha rx ra hnx hna hlx hla hf hg eX eA eI eR 
    go_enter Try.func7, Try.ntmps7
    go_wp2_with (first
      | (go_at_call 10; (with_reducible refine (shown12_any _).mono ?_); rintro e w1 ⟨rfl, hb'⟩; have G1 := Lib.hid hb'; clear hb')
      | (go_at_call 11; (with_reducible refine (K1.out _ _ (Na.out.bl G1.out)).mono ?_); rintro e w2 ⟨q, r, rfl, hr, hs, hb'⟩; have Nq := Lib.hid (Nu.dig hr sI.out (by decide)); have G2 := Lib.hid hb'; clear hr hs hb')
      | (go_at_call 14; (with_reducible refine (D1.out _ _ (Nx.out.bl (G1.out.trans G2.out))).mono ?_); rintro e w3 ⟨d1, rfl, hr, hb'⟩; have G_1 := Lib.hid (hr); have G3 := Lib.hid hb'; clear hr hb'; obtain ⟨A_1, k_1, e_1⟩ := rw_shape G_1.out LN.out; subst e_1)
      | (go_at_call 14; (with_reducible refine (D2.out _ _ (Nq.out.bl G3.out)).mono ?_); rintro e w4 ⟨d2, rfl, hr, hb'⟩; have G_2 := Lib.hid (hr); have G4 := Lib.hid hb'; clear hr hb')
      | (go_at_call 18; (with_reducible refine (K2.out _ _ _ (Nx.out.bl (G1.out.trans (G2.out.trans (G3.out.trans G4.out)))) (Na.out.bl (G1.out.trans (G2.out.trans (G3.out.trans G4.out))))).mono ?_); rintro e w5 ⟨y, rfl, hr, hb'⟩; have Ry := Lib.hid (hr); have G5 := Lib.hid hb'; clear hr hb'))
    go_ret
    exact ⟨rfl, (G1.out.trans (G2.out.trans (G3.out.trans (G4.out.trans G5.out))))⟩
  · have hp : 0 < X := Nat.pos_of_ne_zero hX
    have hlt := fun h => nwt_lt (a := A) (x := X) h
    have hge := nwt_ge (a := A) hp
    obtain ⟨Z, eZ⟩ : ∃ yy, nwt A X = yy := ⟨_, rfl⟩
    have sZ : Hid (Sz 30 Z) := (by rw [← eZ]; exact sz_nwt sA.out sX.out)
    rw [eI, eZ] at hge hlt
    have HZ := sZ
    have K2 : Hid (∀ W v u, Nu W v X → Nu W u A → Calls Try.prog 18 #[v, u] W (RwErr .u64 W (dig 18446744073709551616 Z) 0)) := fun W v u h0 h1 => by
      have c := pStep W v u A X 30 h0 h1 sX.out sA.out (by decide) hp
      rw [eZ] at c
      exact c
    have D1 : Hid (∀ W v, Nu W v X → Calls Try.prog 14 #[v] W (RwEnd .i64 W (dig 65536 X))) := fun W v h0 => by
      have c := kDg h0
      exact c
    have D3 : Hid (∀ W v, Nu W v Z → Calls Try.prog 14 #[v] W (RwEnd .i64 W (dig 65536 Z))) := fun W v h0 => by
      have c := kDg h0
      exact c
    obtain ⟨n, en⟩ : ∃ n, (dig 65536 X).length = n := ⟨_, rfl⟩
    have LN := Lib.hid en
    have hnb := (sX.out.sd (by decide)).len
    rw [en] at hnb
    have nb : (n : Int) ≤ 800 := by omega
    by_cases g1 : X < I
    · skip
      have C1 : Hid (∀ W v u, De W v X → De W u I → Calls Try.prog 24 #[v, u] W (fun e w' => e = .returned (.int .i64 (-1)) ∧ Bl W w')) := fun W v u h0 h1 => by
        have c := kCmp X I (sX.out.sd (by decide)) (sI.out.sd (by decide)) W v u h0 h1
        rw [cmpi_lt g1] at c
        exact c
      clear hx ha rx ra hnx hna hlx hla hf hg eX eA eI eR hX hp hlt hge eZ en hnb g1
      go_enter Try.func7, Try.ntmps7
      go_wp2_with (first
        | (go_at_call 10; (with_reducible refine (shown12_any _).mono ?_); rintro e w1 ⟨rfl, hb'⟩; have G1 := Lib.hid hb'; clear hb')
        | (go_at_call 11; (with_reducible refine (K1.out _ _ (Na.out.bl G1.out)).mono ?_); rintro e w2 ⟨q, r, rfl, hr, hs, hb'⟩; have Nq := Lib.hid (Nu.dig hr sI.out (by decide)); have G2 := Lib.hid hb'; clear hr hs hb')
        | (go_at_call 14; (with_reducible refine (D1.out _ _ (Nx.out.bl (G1.out.trans G2.out))).mono ?_); rintro e w3 ⟨d1, rfl, hr, hb'⟩; have G_1 := Lib.hid (hr); have G3 := Lib.hid hb'; clear hr hb'; obtain ⟨A_1, k_1, e_1⟩ := rw_shape G_1.out LN.out; subst e_1)
        | (go_at_call 14; (with_reducible refine (D2.out _ _ (Nq.out.bl G3.out)).mono ?_); rintro e w4 ⟨d2, rfl, hr, hb'⟩; have G_2 := Lib.hid (hr); have G4 := Lib.hid hb'; clear hr hb')
        | (go_at_call 18; (with_reducible refine (K2.out _ _ _ (Nx.out.bl (G1.out.trans (G2.out.trans (G3.out.trans G4.out)))) (Na.out.bl (G1.out.trans (G2.out.trans (G3.out.trans G4.out))))).mono ?_); rintro e w5 ⟨y, rfl, hr, hb'⟩; have Ry := Lib.hid (hr); have G5 := Lib.hid hb'; clear hr hb')
        | (go_at_call 24; (with_reducible refine (C1.out _ _ _ (G_1.out.bl (G4.out.trans G5.out)) (G_2.out.bl G5.out)).mono ?_); rintro e w6 ⟨rfl, hb'⟩; have G6 := Lib.hid hb'; clear hb'))
      go_ret
      exact ⟨rfl, (G1.out.trans (G2.out.trans (G3.out.trans (G4.out.trans (G5.out.trans G6.out)))))⟩
    obtain ⟨z, ez⟩ : ∃ yy, cmpi Z I = yy := ⟨_, rfl⟩
    have z0 : decide ((0 : Int) ≤ z) = true := decide_eq_true (by rw [← ez]; unfold cmpi; split <;> (try split) <;> omega)
    have C2 : Hid (∀ W v u, De W v Z → De W u I → Calls Try.prog 24 #[v, u] W (fun e w' => e = .returned (.int .i64 z) ∧ Bl W w')) := fun W v u h0 h1 => by
      have c := kCmp Z I (sZ.out.sd (by decide)) (sI.out.sd (by decide)) W v u h0 h1
      rw [ez] at c
      exact c
    by_cases g2 : X = I
    · skip
      have C1 : Hid (∀ W v u, De W v X → De W u I → Calls Try.prog 24 #[v, u] W (fun e w' => e = .returned (.int .i64 0) ∧ Bl W w')) := fun W v u h0 h1 => by
        have c := kCmp X I (sX.out.sd (by decide)) (sI.out.sd (by decide)) W v u h0 h1
        rw [cmpi_eq g2] at c
        exact c
      clear hx ha rx ra hnx hna hlx hla hf hg eX eA eI eR hX hp hlt hge eZ en hnb g1 g2 ez
      go_enter Try.func7, Try.ntmps7
      go_wp2_with (first
        | (go_at_call 10; (with_reducible refine (shown12_any _).mono ?_); rintro e w1 ⟨rfl, hb'⟩; have G1 := Lib.hid hb'; clear hb')
        | (go_at_call 11; (with_reducible refine (K1.out _ _ (Na.out.bl G1.out)).mono ?_); rintro e w2 ⟨q, r, rfl, hr, hs, hb'⟩; have Nq := Lib.hid (Nu.dig hr sI.out (by decide)); have G2 := Lib.hid hb'; clear hr hs hb')
        | (go_at_call 14; (with_reducible refine (D1.out _ _ (Nx.out.bl (G1.out.trans G2.out))).mono ?_); rintro e w3 ⟨d1, rfl, hr, hb'⟩; have G_1 := Lib.hid (hr); have G3 := Lib.hid hb'; clear hr hb'; obtain ⟨A_1, k_1, e_1⟩ := rw_shape G_1.out LN.out; subst e_1)
        | (go_at_call 14; (with_reducible refine (D2.out _ _ (Nq.out.bl G3.out)).mono ?_); rintro e w4 ⟨d2, rfl, hr, hb'⟩; have G_2 := Lib.hid (hr); have G4 := Lib.hid hb'; clear hr hb')
        | (go_at_call 18; (with_reducible refine (K2.out _ _ _ (Nx.out.bl (G1.out.trans (G2.out.trans (G3.out.trans G4.out)))) (Na.out.bl (G1.out.trans (G2.out.trans (G3.out.trans G4.out))))).mono ?_); rintro e w5 ⟨y, rfl, hr, hb'⟩; have Ry := Lib.hid (hr); have G5 := Lib.hid hb'; clear hr hb')
        | (go_at_call 24; (with_reducible refine (C1.out _ _ _ (G_1.out.bl (G4.out.trans G5.out)) (G_2.out.bl G5.out)).mono ?_); rintro e w6 ⟨rfl, hb'⟩; have G6 := Lib.hid hb'; clear hb')
        | (go_at_call 14; (with_reducible refine (D3.out _ _ (Nu.dig (Ry.out.bl G6.out) HZ.out (by decide))).mono ?_); rintro e w7 ⟨d3, rfl, hr, hb'⟩; have G_3 := Lib.hid (hr); have G7 := Lib.hid hb'; clear hr hb')
        | (go_at_call 24; (with_reducible refine (C2.out _ _ _ G_3.out (G_2.out.bl (G5.out.trans (G6.out.trans G7.out)))).mono ?_); rintro e w8 ⟨rfl, hb'⟩; have G8 := Lib.hid hb'; clear hb')
        | (go_at_call 24; (with_reducible refine (C1.out _ _ _ (G_1.out.bl (G4.out.trans (G5.out.trans (G6.out.trans (G7.out.trans G8.out))))) (G_2.out.bl (G5.out.trans (G6.out.trans (G7.out.trans G8.out))))).mono ?_); rintro e w9 ⟨rfl, hb'⟩; have G9 := Lib.hid hb'; clear hb'))
      go_ret
      exact ⟨rfl, (G1.out.trans (G2.out.trans (G3.out.trans (G4.out.trans (G5.out.trans (G6.out.trans (G7.out.trans (G8.out.trans G9.out))))))))⟩
    · have g3 : I < X := by omega
      have C1 : Hid (∀ W v u, De W v X → De W u I → Calls Try.prog 24 #[v, u] W (fun e w' => e = .returned (.int .i64 1) ∧ Bl W w')) := fun W v u h0 h1 => by
        have c := kCmp X I (sX.out.sd (by decide)) (sI.out.sd (by decide)) W v u h0 h1
        rw [cmpi_gt g3] at c
        exact c
      have C3 : Hid (∀ W v u, De W v Z → De W u X → Calls Try.prog 24 #[v, u] W (fun e w' => e = .returned (.int .i64 (-1)) ∧ Bl W w')) := fun W v u h0 h1 => by
        have c := kCmp Z X (sZ.out.sd (by decide)) (sX.out.sd (by decide)) W v u h0 h1
        rw [cmpi_lt (hlt g3)] at c
        exact c
      clear hx ha rx ra hnx hna hlx hla hf hg eX eA eI eR hX hp hlt hge eZ en hnb g1 g2 g3 ez
      go_enter Try.func7, Try.ntmps7
      go_wp2_with (first
        | (go_at_call 10; (with_reducible refine (shown12_any _).mono ?_); rintro e w1 ⟨rfl, hb'⟩; have G1 := Lib.hid hb'; clear hb')
        | (go_at_call 11; (with_reducible refine (K1.out _ _ (Na.out.bl G1.out)).mono ?_); rintro e w2 ⟨q, r, rfl, hr, hs, hb'⟩; have Nq := Lib.hid (Nu.dig hr sI.out (by decide)); have G2 := Lib.hid hb'; clear hr hs hb')
        | (go_at_call 14; (with_reducible refine (D1.out _ _ (Nx.out.bl (G1.out.trans G2.out))).mono ?_); rintro e w3 ⟨d1, rfl, hr, hb'⟩; have G_1 := Lib.hid (hr); have G3 := Lib.hid hb'; clear hr hb'; obtain ⟨A_1, k_1, e_1⟩ := rw_shape G_1.out LN.out; subst e_1)
        | (go_at_call 14; (with_reducible refine (D2.out _ _ (Nq.out.bl G3.out)).mono ?_); rintro e w4 ⟨d2, rfl, hr, hb'⟩; have G_2 := Lib.hid (hr); have G4 := Lib.hid hb'; clear hr hb')
        | (go_at_call 18; (with_reducible refine (K2.out _ _ _ (Nx.out.bl (G1.out.trans (G2.out.trans (G3.out.trans G4.out)))) (Na.out.bl (G1.out.trans (G2.out.trans (G3.out.trans G4.out))))).mono ?_); rintro e w5 ⟨y, rfl, hr, hb'⟩; have Ry := Lib.hid (hr); have G5 := Lib.hid hb'; clear hr hb')
        | (go_at_call 24; (with_reducible refine (C1.out _ _ _ (G_1.out.bl (G4.out.trans G5.out)) (G_2.out.bl G5.out)).mono ?_); rintro e w6 ⟨rfl, hb'⟩; have G6 := Lib.hid hb'; clear hb')
        | (go_at_call 14; (with_reducible refine (D3.out _ _ (Nu.dig (Ry.out.bl G6.out) HZ.out (by decide))).mono ?_); rintro e w7 ⟨d3, rfl, hr, hb'⟩; have G_3 := Lib.hid (hr); have G7 := Lib.hid hb'; clear hr hb')
        | (go_at_call 24; (with_reducible refine (C2.out _ _ _ G_3.out (G_2.out.bl (G5.out.trans (G6.out.trans G7.out)))).mono ?_); rintro e w8 ⟨rfl, hb'⟩; have G8 := Lib.hid hb'; clear hb')
        | (go_at_call 24; (with_reducible refine (C1.out _ _ _ (G_1.out.bl (G4.out.trans (G5.out.trans (G6.out.trans (G7.out.trans G8.out))))) (G_2.out.bl (G5.out.trans (G6.out.trans (G7.out.trans G8.out))))).mono ?_); rintro e w9 ⟨rfl, hb'⟩; have G9 := Lib.hid hb'; clear hb')
        | (go_at_call 24; (with_reducible refine (C3.out _ _ _ (G_3.out.bl (G8.out.trans G9.out)) (G_1.out.bl (G4.out.trans (G5.out.trans (G6.out.trans (G7.out.trans (G8.out.trans G9.out))))))).mono ?_); rintro e w10 ⟨rfl, hb'⟩; have G10 := Lib.hid hb'; clear hb'))
      go_ret
      exact ⟨rfl, (G1.out.trans (G2.out.trans (G3.out.trans (G4.out.trans (G5.out.trans (G6.out.trans (G7.out.trans (G8.out.trans (G9.out.trans G10.out)))))))))⟩
end Go.Proofs.Ytojpfijjnocboaa
