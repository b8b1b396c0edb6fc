/-
  The walk of RootFirst.
-/
import Derived.Test.YtojpfijjnocboaaPk42
namespace Go.Proofs.Ytojpfijjnocboaa
open Go.RowKit
set_option linter.unusedVariables false
set_option linter.unusedSimpArgs false

set_option maxRecDepth 100000 in
set_option maxHeartbeats 8000000 in
theorem rootFirst_walk (va : Value) (la : List Nat) (ha : All 18446744073709551616 la) (w : World) (ra : Rw .u64 w va la) :
    Calls Try.prog 9 #[va] w fun e w' => e = .returned (.bool true) ∧ Bl w w' := by
  obtain ⟨na, hna⟩ : ∃ n, la.length = n := ⟨_, rfl⟩
  have hla := rw_len ra
  obtain ⟨Za, ka, eva⟩ := rw_shape ra hna
  subst eva
  rw [hna] at hla
  have iba : (na : Int) ≤ 9223372036854775807 := by omega
  by_cases hf : 20 < na
  · skip
    have d1a : decide ((20 : Int) < (na : Int)) = true := decide_eq_true (by omega)
    have d2a : decide (20 < na) = true := decide_eq_true (by omega)
    clear ha ra hna hla hf
    go_enter Try.func9, Try.ntmps9
    go_wp2_with (first
      | (go_at_call 10; (with_reducible refine (shown12_any _).mono ?_); rintro e w1 ⟨rfl, hb'⟩; have G1 := Lib.hid hb'; clear hb'))
    go_ret
    exact ⟨rfl, G1.out⟩
  have d1a : decide ((20 : Int) < (na : Int)) = false := decide_eq_false (by omega)
  have d2a : decide (20 < na) = false := decide_eq_false (by omega)
  have Na : Hid (Nu w (.slice Za na ka) (val 18446744073709551616 la)) := Nu.mk ra ha (by omega)
  have sA := Lib.hid (Sz.of_val ha (k := 20) (by omega))
  obtain ⟨A, eA⟩ : ∃ x, val 18446744073709551616 la = x := ⟨_, rfl⟩
  rw [eA] at Na sA
  have i1 := fst_gt A
  have i2 := fst_le A
  obtain ⟨X, eX⟩ : ∃ yy, isq A = yy := ⟨_, rfl⟩
  have sX : Hid (Sz 20 X) := (by rw [← eX]; exact sA.out.le (isq_self A))
  obtain ⟨R, eR⟩ : ∃ yy, A - X * X = yy := ⟨_, rfl⟩
  have K1 : Hid (∀ W v, Nu W v A → Calls Try.prog 11 #[v] W (RwEnd2 .u64 W (dig 18446744073709551616 X) (dig 18446744073709551616 R))) := fun W v h0 => by
    have c := pSqrt W v A 20 h0 sA.out (by decide)
    rw [eX, eR] at c
    exact c
  obtain ⟨F, eF⟩ : ∃ yy, fst A = yy := ⟨_, rfl⟩
  have sF : Hid (Sz 21 F) := (by rw [← eF]; exact sz_fst sA.out)
  rw [eX, eF] at i1 i2
  have K2 : Hid (∀ W v, Nu W v A → Calls Try.prog 20 #[v] W (RwEnd .u64 W (dig 18446744073709551616 F))) := fun W v h0 => by
    have c := pFirst W v A h0
    rw [eF] at c
    exact c
  have L2 : Hid (∀ (w : World) (b : Nat), b = w.heap.size → De (w.alloc (.cells #[.int .i64 2] 3)) (.slice (some ⟨b, 0, none⟩) 1 1) 2) := fun w b hb => de_lit (by decide +kernel) hb
  have s2 : Hid (Sz 1 2) := by show Sz 1 2; unfold Sz; decide
  obtain ⟨B, eB⟩ : ∃ yy, X + X = yy := ⟨_, rfl⟩
  have sB : Hid (Sz 21 B) := (by rw [← eB]; exact sX.out.add sX.out)
  obtain ⟨M, eM⟩ : ∃ yy, B + 2 = yy := ⟨_, rfl⟩
  have sM : Hid (Sz 22 M) := (by rw [← eM]; exact sB.out.add (s2.out.mono (by decide)))
  rw [eB, eM] at i2
  have D1 : Hid (∀ W v, Nu W v X → Calls Try.prog 14 #[v] W (RwEnd .i64 W (dig 65536 X))) := fun W v h0 => by
    have c := kDg h0
    exact c
  have D2 : Hid (∀ W v, Nu W v F → Calls Try.prog 14 #[v] W (RwEnd .i64 W (dig 65536 F))) := fun W v h0 => by
    have c := kDg h0
    exact c
  have C1 : Hid (∀ W v u, De W v F → De W u X → Calls Try.prog 24 #[v, u] W (fun e w' => e = .returned (.int .i64 1) ∧ Bl W w')) := fun W v u h0 h1 => by
    have c := kCmp F X (sF.out.sd (by decide)) (sX.out.sd (by decide)) W v u h0 h1
    rw [cmpi_gt i1] at c
    exact c
  have A1 : Hid (∀ W v u, De W v X → De W u X → Calls Try.prog 23 #[v, u] W (RwEnd .i64 W (dig 65536 B))) := fun W v u h0 h1 => by
    have c := kAdd X X (sX.out.sd (by decide)) (sX.out.sd (by decide)) W v u h0 h1
    rw [eB] at c
    exact c
  have A2 : Hid (∀ W v u, De W v B → De W u 2 → Calls Try.prog 23 #[v, u] W (RwEnd .i64 W (dig 65536 M))) := fun W v u h0 h1 => by
    have c := kAdd B 2 (sB.out.sd (by decide)) (s2.out.sd (by decide)) W v u h0 h1
    rw [eM] at c
    exact c
  obtain ⟨z, ez⟩ : ∃ yy, cmpi F M = yy := ⟨_, rfl⟩
  have z0 : decide (z ≤ 0) = true := decide_eq_true (by rw [← ez]; unfold cmpi; split <;> (try split) <;> omega)
  have C2 : Hid (∀ W v u, De W v F → De W u M → Calls Try.prog 24 #[v, u] W (fun e w' => e = .returned (.int .i64 z) ∧ Bl W w')) := fun W v u h0 h1 => by
    have c := kCmp F M (sF.out.sd (by decide)) (sM.out.sd (by decide)) W v u h0 h1
    rw [ez] at c
    exact c
  clear ha ra hna hla hf eA i1 i2 eX eR eF eB eM ez
  go_enter Try.func9, Try.ntmps9
  go_wp2_with (first
    | (go_at_call 10; (with_reducible refine (shown12_any _).mono ?_); rintro e w1 ⟨rfl, hb'⟩; have G1 := Lib.hid hb'; clear hb')
    | (go_at_call 11; (with_reducible refine (K1.out _ _ (Na.out.bl G1.out)).mono ?_); rintro e w2 ⟨q, r, rfl, hr, hs, hb'⟩; have Nq := Lib.hid (Nu.dig hr sX.out (by decide)); have G2 := Lib.hid hb'; clear hr hs hb')
    | (go_at_call 14; (with_reducible refine (D1.out _ _ Nq.out).mono ?_); rintro e w3 ⟨d1, rfl, hr, hb'⟩; have G_1 := Lib.hid (hr); have G3 := Lib.hid hb'; clear hr hb')
    | (go_at_call 20; (with_reducible refine (K2.out _ _ (Na.out.bl (G1.out.trans (G2.out.trans G3.out)))).mono ?_); rintro e w4 ⟨f, rfl, hr, hb'⟩; have Nf := Lib.hid (Nu.dig hr sF.out (by decide)); have G4 := Lib.hid hb'; clear hr hb')
    | (go_at_call 14; (with_reducible refine (D2.out _ _ Nf.out).mono ?_); rintro e w5 ⟨d2, rfl, hr, hb'⟩; have G_2 := Lib.hid (hr); have G5 := Lib.hid hb'; clear hr hb')
    | (go_at_call 24; (with_reducible refine (C1.out _ _ _ G_2.out (G_1.out.bl (G4.out.trans G5.out))).mono ?_); rintro e w6 ⟨rfl, hb'⟩; have G6 := Lib.hid hb'; clear hb')
    | (go_at_call 23; (with_reducible refine (A1.out _ _ _ (G_1.out.bl (G4.out.trans (G5.out.trans G6.out))) (G_1.out.bl (G4.out.trans (G5.out.trans G6.out)))).mono ?_); rintro e w7 ⟨d3, rfl, hr, hb'⟩; have G_3 := Lib.hid (hr); have G7 := Lib.hid hb'; clear hr hb')
    | (go_at_call 23; (with_reducible refine (A2.out _ _ _ (G_3.out.bl ((Bl.refl _).alloc _)) (L2.out _ _ rfl)).mono ?_); rintro e w8 ⟨d4, rfl, hr, hb'⟩; have G_4 := Lib.hid (hr); have G8 := Lib.hid (((Bl.refl _).alloc _).trans hb'); clear hr hb')
    | (go_at_call 24; (with_reducible refine (C2.out _ _ _ (G_2.out.bl (G6.out.trans (G7.out.trans G8.out))) G_4.out).mono ?_); rintro e w9 ⟨rfl, hb'⟩; have G9 := Lib.hid hb'; clear hb'))
  go_ret
  exact ⟨rfl, (G1.out.trans (G2.out.trans (G3.out.trans (G4.out.trans (G5.out.trans (G6.out.trans (G7.out.trans (G8.out.trans G9.out))))))))⟩
end Go.Proofs.Ytojpfijjnocboaa
