/-
  The walk of RootBetween.
-/
import Derived.Test.YtojpfijjnocboaaPk42
namespace Go.Proofs.Ytojpfijjnocboaa
open Go.RowKit
set_option linter.unusedVariables false
set_option linter.unusedSimpArgs false

set_option maxRecDepth 100000 in
set_option maxHeartbeats 8000000 in
theorem rootBetween_walk (va : Value) (la : List Nat) (ha : All 18446744073709551616 la) (w : World) (ra : Rw .u64 w va la) :
    Calls Try.prog 5 #[va] w fun e w' => e = .returned (.bool true) ∧ Bl w w' := by
  obtain ⟨na, hna⟩ : ∃ n, la.length = n := ⟨_, rfl⟩
  have hla := rw_len ra
  obtain ⟨Za, ka, eva⟩ := rw_shape ra hna
  subst eva
  rw [hna] at hla
  have iba : (na : Int) ≤ 9223372036854775807 := by omega
  by_cases hf : 40 < na
  · skip
    have d1a : decide ((40 : Int) < (na : Int)) = true := decide_eq_true (by omega)
    have d2a : decide (40 < na) = true := decide_eq_true (by omega)
    clear ha ra hna hla hf
    go_enter Try.func5, Try.ntmps5
    go_wp2_with (first
      | (go_at_call 10; (with_reducible refine (shown12_any _).mono ?_); rintro e w1 ⟨rfl, hb'⟩; have G1 := Lib.hid hb'; clear hb'))
    go_ret
    exact ⟨rfl, G1.out⟩
  have d1a : decide ((40 : Int) < (na : Int)) = false := decide_eq_false (by omega)
  have d2a : decide (40 < na) = false := decide_eq_false (by omega)
  have Na : Hid (Nu w (.slice Za na ka) (val 18446744073709551616 la)) := Nu.mk ra ha (by omega)
  have sA := Lib.hid (Sz.of_val ha (k := 40) (by omega))
  obtain ⟨A, eA⟩ : ∃ x, val 18446744073709551616 la = x := ⟨_, rfl⟩
  rw [eA] at Na sA
  have i1 := isq_le A
  have i2 := isq_lt A
  obtain ⟨X, eX⟩ : ∃ yy, isq A = yy := ⟨_, rfl⟩
  have sX : Hid (Sz 40 X) := (by rw [← eX]; exact sA.out.le (isq_self A))
  rw [eX] at i1 i2
  obtain ⟨R, eR⟩ : ∃ yy, A - X * X = yy := ⟨_, rfl⟩
  have sR : Hid (Sz 40 R) := (by rw [← eR]; exact sA.out.le (Nat.sub_le _ _))
  have K1 : Hid (∀ W v, Nu W v A → Calls Try.prog 11 #[v] W (RwEnd2 .u64 W (dig 18446744073709551616 X) (dig 18446744073709551616 R))) := fun W v h0 => by
    have c := pSqrt W v A 40 h0 sA.out (by decide)
    rw [eX, eR] at c
    exact c
  obtain ⟨S, eS⟩ : ∃ yy, X * X = yy := ⟨_, rfl⟩
  have sS : Hid (Sz 80 S) := (by rw [← eS]; exact szmul sX.out sX.out)
  rw [eS] at i1
  have i3 : S + R = A := by rw [← eR, eS]; omega
  obtain ⟨N, eN⟩ : ∃ yy, X + 1 = yy := ⟨_, rfl⟩
  have sN : Hid (Sz 41 N) := (by rw [← eN]; exact sz_succ sX.out)
  rw [eN] at i2
  obtain ⟨Q, eQ⟩ : ∃ yy, N * N = yy := ⟨_, rfl⟩
  have sQ : Hid (Sz 82 Q) := (by rw [← eQ]; exact szmul sN.out sN.out)
  rw [eQ] at i2
  obtain ⟨z, ez⟩ : ∃ yy, cmpi S A = yy := ⟨_, rfl⟩
  have z0 : decide (z ≤ 0) = true := decide_eq_true (by rw [← ez]; unfold cmpi; split <;> (try split) <;> omega)
  have L1 : Hid (∀ (w : World) (b : Nat), b = w.heap.size → De (w.alloc (.cells #[.int .i64 1] 3)) (.slice (some ⟨b, 0, none⟩) 1 1) 1) := fun w b hb => de_lit (by decide +kernel) hb
  have s1 : Hid (Sz 1 1) := by show Sz 1 1; unfold Sz; decide
  have D1 : Hid (∀ W v, Nu W v X → Calls Try.prog 14 #[v] W (RwEnd .i64 W (dig 65536 X))) := fun W v h0 => by
    have c := kDg h0
    exact c
  have M1 : Hid (∀ W v u, De W v X → De W u X → Calls Try.prog 22 #[v, u] W (RwEnd .i64 W (dig 65536 S))) := fun W v u h0 h1 => by
    have c := kMul X X (sX.out.sd (by decide)) (sX.out.sd (by decide)) W v u h0 h1
    rw [eS] at c
    exact c
  have A1 : Hid (∀ W v u, De W v X → De W u 1 → Calls Try.prog 23 #[v, u] W (RwEnd .i64 W (dig 65536 N))) := fun W v u h0 h1 => by
    have c := kAdd X 1 (sX.out.sd (by decide)) (s1.out.sd (by decide)) W v u h0 h1
    rw [eN] at c
    exact c
  have D2 : Hid (∀ W v, Nu W v A → Calls Try.prog 14 #[v] W (RwEnd .i64 W (dig 65536 A))) := fun W v h0 => by
    have c := kDg h0
    exact c
  have C1 : Hid (∀ W v u, De W v S → De W u A → Calls Try.prog 24 #[v, u] W (fun e w' => e = .returned (.int .i64 z) ∧ Bl W w')) := fun W v u h0 h1 => by
    have c := kCmp S A (sS.out.sd (by decide)) (sA.out.sd (by decide)) W v u h0 h1
    rw [ez] at c
    exact c
  have M2 : Hid (∀ W v u, De W v N → De W u N → Calls Try.prog 22 #[v, u] W (RwEnd .i64 W (dig 65536 Q))) := fun W v u h0 h1 => by
    have c := kMul N N (sN.out.sd (by decide)) (sN.out.sd (by decide)) W v u h0 h1
    rw [eQ] at c
    exact c
  have C2 : Hid (∀ W v u, De W v Q → De W u A → Calls Try.prog 24 #[v, u] W (fun e w' => e = .returned (.int .i64 1) ∧ Bl W w')) := fun W v u h0 h1 => by
    have c := kCmp Q A (sQ.out.sd (by decide)) (sA.out.sd (by decide)) W v u h0 h1
    rw [cmpi_gt i2] at c
    exact c
  have D3 : Hid (∀ W v, Nu W v R → Calls Try.prog 14 #[v] W (RwEnd .i64 W (dig 65536 R))) := fun W v h0 => by
    have c := kDg h0
    exact c
  have A2 : Hid (∀ W v u, De W v S → De W u R → Calls Try.prog 23 #[v, u] W (RwEnd .i64 W (dig 65536 A))) := fun W v u h0 h1 => by
    have c := kAdd S R (sS.out.sd (by decide)) (sR.out.sd (by decide)) W v u h0 h1
    rw [i3] at c
    exact c
  have C3 : Hid (∀ W v u, De W v A → De W u A → Calls Try.prog 24 #[v, u] W (fun e w' => e = .returned (.int .i64 0) ∧ Bl W w')) := fun W v u h0 h1 => by
    have c := kCmp A A (sA.out.sd (by decide)) (sA.out.sd (by decide)) W v u h0 h1
    rw [cmpi_eq (Eq.refl A)] at c
    exact c
  clear ha ra hna hla hf eA i1 i2 i3 eX eR eS eN eQ ez
  go_enter Try.func5, Try.ntmps5
  go_wp2_with (first
    | (go_at_call 10; (with_reducible refine (shown12_any _).mono ?_); rintro e w1 ⟨rfl, hb'⟩; have G1 := Lib.hid hb'; clear hb')
    | (go_at_call 11; (with_reducible refine (K1.out _ _ (Na.out.bl G1.out)).mono ?_); rintro e w2 ⟨q, r, rfl, hr, hs, hb'⟩; have Nq := Lib.hid (Nu.dig hr sX.out (by decide)); have Nr := Lib.hid (Nu.dig hs sR.out (by decide)); have G2 := Lib.hid hb'; clear hr hs hb')
    | (go_at_call 14; (with_reducible refine (D1.out _ _ Nq.out).mono ?_); rintro e w3 ⟨d1, rfl, hr, hb'⟩; have G_1 := Lib.hid (hr); have G3 := Lib.hid hb'; clear hr hb')
    | (go_at_call 22; (with_reducible refine (M1.out _ _ _ G_1.out G_1.out).mono ?_); rintro e w4 ⟨d2, rfl, hr, hb'⟩; have G_2 := Lib.hid (hr); have G4 := Lib.hid hb'; clear hr hb')
    | (go_at_call 23; (with_reducible refine (A1.out _ _ _ (G_1.out.bl (G4.out.alloc _)) (L1.out _ _ rfl)).mono ?_); rintro e w5 ⟨d3, rfl, hr, hb'⟩; have G_3 := Lib.hid (hr); have G5 := Lib.hid (((Bl.refl _).alloc _).trans hb'); clear hr hb')
    | (go_at_call 14; (with_reducible refine (D2.out _ _ (Na.out.bl (G1.out.trans (G2.out.trans (G3.out.trans (G4.out.trans G5.out)))))).mono ?_); rintro e w6 ⟨d4, rfl, hr, hb'⟩; have G_4 := Lib.hid (hr); have G6 := Lib.hid hb'; clear hr hb')
    | (go_at_call 24; (with_reducible refine (C1.out _ _ _ (G_2.out.bl (G5.out.trans G6.out)) G_4.out).mono ?_); rintro e w7 ⟨rfl, hb'⟩; have G7 := Lib.hid hb'; clear hb')
    | (go_at_call 22; (with_reducible refine (M2.out _ _ _ (G_3.out.bl (G6.out.trans G7.out)) (G_3.out.bl (G6.out.trans G7.out))).mono ?_); rintro e w8 ⟨d5, rfl, hr, hb'⟩; have G_5 := Lib.hid (hr); have G8 := Lib.hid hb'; clear hr hb')
    | (go_at_call 24; (with_reducible refine (C2.out _ _ _ G_5.out (G_4.out.bl (G7.out.trans G8.out))).mono ?_); rintro e w9 ⟨rfl, hb'⟩; have G9 := Lib.hid hb'; clear hb')
    | (go_at_call 14; (with_reducible refine (D3.out _ _ (Nr.out.bl (G3.out.trans (G4.out.trans (G5.out.trans (G6.out.trans (G7.out.trans (G8.out.trans G9.out)))))))).mono ?_); rintro e w10 ⟨d6, rfl, hr, hb'⟩; have G_6 := Lib.hid (hr); have G10 := Lib.hid hb'; clear hr hb')
    | (go_at_call 23; (with_reducible refine (A2.out _ _ _ (G_2.out.bl (G5.out.trans (G6.out.trans (G7.out.trans (G8.out.trans (G9.out.trans G10.out)))))) G_6.out).mono ?_); rintro e w11 ⟨d7, rfl, hr, hb'⟩; have G_7 := Lib.hid (hr); have G11 := Lib.hid hb'; clear hr hb')
    | (go_at_call 24; (with_reducible refine (C3.out _ _ _ G_7.out (G_4.out.bl (G7.out.trans (G8.out.trans (G9.out.trans (G10.out.trans G11.out)))))).mono ?_); rintro e w12 ⟨rfl, hb'⟩; have G12 := Lib.hid hb'; clear hb'))
  go_ret
  exact ⟨rfl, (G1.out.trans (G2.out.trans (G3.out.trans (G4.out.trans (G5.out.trans (G6.out.trans (G7.out.trans (G8.out.trans (G9.out.trans (G10.out.trans (G11.out.trans G12.out)))))))))))⟩
end Go.Proofs.Ytojpfijjnocboaa
