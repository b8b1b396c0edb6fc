/-
  The walk of RootSquares.
-/
import Derived.Test.YtojpfijjnocboaaPk42
namespace Go.Proofs.Ytojpfijjnocboaa
open Go.RowKit
set_option linter.unusedVariables false
set_option linter.unusedSimpArgs false

set_option maxRecDepth 100000 in
set_option maxHeartbeats 8000000 in
theorem rootSquares_walk (va : Value) (la : List Nat) (x : Nat) (ha : All 18446744073709551616 la) (hx : x < 18446744073709551616) (w : World) (ra : Rw .u64 w va la) :
    Calls Try.prog 6 #[va, .int .u64 (x : Int)] w fun e w' => e = .returned (.bool true) ∧ Bl w w' := by
  obtain ⟨na, hna⟩ : ∃ n, la.length = n := ⟨_, rfl⟩
  have hla := rw_len ra
  obtain ⟨Za, ka, eva⟩ := rw_shape ra hna
  subst eva
  rw [hna] at hla
  have iba : (na : Int) ≤ 9223372036854775807 := by omega
  by_cases hf : 20 < na
  · skip
    have d1a : decide ((20 : Int) < (na : Int)) = true := decide_eq_true (by omega)
    have d2a : decide (20 < na) = true := decide_eq_true (by omega)
    clear ha ra hna hla hf hx
    go_enter Try.func6, Try.ntmps6
    go_wp2_with (first
      | (go_at_call 10; (with_reducible refine (shown12_any _).mono ?_); rintro e w1 ⟨rfl, hb'⟩; have G1 := Lib.hid hb'; clear hb'))
    go_ret
    exact ⟨rfl, G1.out⟩
  have d1a : decide ((20 : Int) < (na : Int)) = false := decide_eq_false (by omega)
  have d2a : decide (20 < na) = false := decide_eq_false (by omega)
  have Na : Hid (Nu w (.slice Za na ka) (val 18446744073709551616 la)) := Nu.mk ra ha (by omega)
  have sA := Lib.hid (Sz.of_val ha (k := 20) (by omega))
  obtain ⟨A, eA⟩ : ∃ x, val 18446744073709551616 la = x := ⟨_, rfl⟩
  rw [eA] at Na sA
  have HX := Lib.hid hx
  have sx : Hid (Sz 1 x) := by show Sz 1 x; unfold Sz; rw [Nat.pow_one]; exact hx
  have q1 := isq_sq A 0 (Nat.zero_le _)
  have q2 := isq_sq A x
  rw [Nat.add_zero] at q1
  obtain ⟨S, eS⟩ : ∃ yy, A * A = yy := ⟨_, rfl⟩
  have sS : Hid (Sz 40 S) := (by rw [← eS]; exact szmul sA.out sA.out)
  rw [eS] at q1 q2
  have q3 : S - A * A = 0 := by rw [eS]; omega
  have K1 : Hid (∀ W v, Nu W v S → Calls Try.prog 11 #[v] W (RwEnd2 .u64 W (dig 18446744073709551616 A) (dig 18446744073709551616 0))) := fun W v h0 => by
    have c := pSqrt W v S 40 h0 sS.out (by decide)
    rw [q1, q3] at c
    exact c
  have K2 : Hid (∀ W v, Nu W v S → Calls Try.prog 17 #[v] W (fun e w' => e = .returned (.bool true) ∧ Bl W w')) := fun W v h0 => by
    have c := pWhole W v S 40 h0 sS.out (by decide)
    rw [q1, decide_eq_true q3] at c
    exact c
  have D1 : Hid (∀ W v, Nu W v A → Calls Try.prog 14 #[v] W (RwEnd .i64 W (dig 65536 A))) := fun W v h0 => by
    have c := kDg h0
    exact c
  have M1 : Hid (∀ W v u, De W v A → De W u A → Calls Try.prog 22 #[v, u] W (RwEnd .i64 W (dig 65536 S))) := fun W v u h0 h1 => by
    have c := kMul A A (sA.out.sd (by decide)) (sA.out.sd (by decide)) W v u h0 h1
    rw [eS] at c
    exact c
  have W1 : Hid (∀ W v, De W v S → Calls Try.prog 13 #[v] W (RwEnd .u64 W (dig 18446744073709551616 S))) := fun W v h0 => by
    have c := kWords S (sS.out.sd (by decide)) W v h0
    exact c
  have W2 : Hid (∀ W v, De W v A → Calls Try.prog 13 #[v] W (RwEnd .u64 W (dig 18446744073709551616 A))) := fun W v h0 => by
    have c := kWords A (sA.out.sd (by decide)) W v h0
    exact c
  have E1 := Lib.hid (kSame A (sA.out.sd (by decide)))
  have D2 : Hid (∀ W v, Nu W v x → Calls Try.prog 14 #[v] W (RwEnd .i64 W (dig 65536 x))) := fun W v h0 => by
    have c := kDg h0
    exact c
  obtain ⟨B, eB⟩ : ∃ yy, A + A = yy := ⟨_, rfl⟩
  have sB : Hid (Sz 21 B) := (by rw [← eB]; exact sA.out.add sA.out)
  have A1 : Hid (∀ W v u, De W v A → De W u A → Calls Try.prog 23 #[v, u] W (RwEnd .i64 W (dig 65536 B))) := fun W v u h0 h1 => by
    have c := kAdd A A (sA.out.sd (by decide)) (sA.out.sd (by decide)) W v u h0 h1
    rw [eB] at c
    exact c
  have L0 : Hid ((dig 18446744073709551616 0).length = 0) := rfl
  by_cases hlt : B < x
  · skip
    have C1 : Hid (∀ W v u, De W v x → De W u B → Calls Try.prog 24 #[v, u] W (fun e w' => e = .returned (.int .i64 1) ∧ Bl W w')) := fun W v u h0 h1 => by
      have c := kCmp x B (sx.out.sd (by decide)) (sB.out.sd (by decide)) W v u h0 h1
      rw [cmpi_gt hlt] at c
      exact c
    clear ha ra hna hla hf eA hx q1 q2 q3 eS eB hlt
    go_enter Try.func6, Try.ntmps6
    go_wp2_with (first
      | (go_at_call 10; (with_reducible refine (shown12_any _).mono ?_); rintro e w1 ⟨rfl, hb'⟩; have G1 := Lib.hid hb'; clear hb')
      | (go_at_call 14; (with_reducible refine (D1.out _ _ (Na.out.bl G1.out)).mono ?_); rintro e w2 ⟨d1, rfl, hr, hb'⟩; have G_1 := Lib.hid (hr); have G2 := Lib.hid hb'; clear hr hb')
      | (go_at_call 22; (with_reducible refine (M1.out _ _ _ G_1.out G_1.out).mono ?_); rintro e w3 ⟨d2, rfl, hr, hb'⟩; have G_2 := Lib.hid (hr); have G3 := Lib.hid hb'; clear hr hb')
      | (go_at_call 13; (with_reducible refine (W1.out _ _ G_2.out).mono ?_); rintro e w4 ⟨d3, rfl, hr, hb'⟩; have N3 := Lib.hid (Nu.dig hr sS.out (by decide)); have G4 := Lib.hid hb'; clear hr hb')
      | (go_at_call 11; (with_reducible refine (K1.out _ _ N3.out).mono ?_); rintro e w5 ⟨q, r, rfl, hr, hs, hb'⟩; have Rq := Lib.hid (hr); have Rr := Lib.hid (hs); have G5 := Lib.hid hb'; clear hr hs hb'; obtain ⟨A_1, k_1, e_1⟩ := rw_shape Rr.out L0.out; subst e_1)
      | (go_at_call 13; (with_reducible refine (W2.out _ _ (G_1.out.bl (G3.out.trans (G4.out.trans G5.out)))).mono ?_); rintro e w6 ⟨d4, rfl, hr, hb'⟩; have R4 := Lib.hid (hr); have G6 := Lib.hid hb'; clear hr hb')
      | (go_at_call 16; (with_reducible refine (E1.out _ _ _ (Rq.out.bl G6.out) R4.out).mono ?_); rintro e w7 ⟨rfl, hb'⟩; have G7 := Lib.hid hb'; clear hb')
      | (go_at_call 13; (with_reducible refine (W1.out _ _ (G_2.out.bl (G4.out.trans (G5.out.trans (G6.out.trans G7.out))))).mono ?_); rintro e w8 ⟨d5, rfl, hr, hb'⟩; have N5 := Lib.hid (Nu.dig hr sS.out (by decide)); have G8 := Lib.hid hb'; clear hr hb')
      | (go_at_call 17; (with_reducible refine (K2.out _ _ N5.out).mono ?_); rintro e w9 ⟨rfl, hb'⟩; have G9 := Lib.hid hb'; clear hb')
      | (go_at_call 14; (with_reducible refine (D2.out _ _ (nu_lit (by simp) rfl HX.out)).mono ?_); rintro e w10 ⟨d6, rfl, hr, hb'⟩; have G_6 := Lib.hid (hr); have G10 := Lib.hid (((Bl.refl _).alloc _).trans hb'); clear hr hb')
      | (go_at_call 23; (with_reducible refine (A1.out _ _ _ (G_1.out.bl (G3.out.trans (G4.out.trans (G5.out.trans (G6.out.trans (G7.out.trans (G8.out.trans (G9.out.trans G10.out)))))))) (G_1.out.bl (G3.out.trans (G4.out.trans (G5.out.trans (G6.out.trans (G7.out.trans (G8.out.trans (G9.out.trans G10.out))))))))).mono ?_); rintro e w11 ⟨d7, rfl, hr, hb'⟩; have G_7 := Lib.hid (hr); have G11 := Lib.hid hb'; clear hr hb')
      | (go_at_call 24; (with_reducible refine (C1.out _ _ _ (G_6.out.bl G11.out) G_7.out).mono ?_); rintro e w12 ⟨rfl, hb'⟩; have G12 := Lib.hid hb'; clear hb'))
    go_ret
    exact ⟨rfl, (G1.out.trans (G2.out.trans (G3.out.trans (G4.out.trans (G5.out.trans (G6.out.trans (G7.out.trans (G8.out.trans (G9.out.trans (G10.out.trans (G11.out.trans G12.out)))))))))))⟩
  · skip
    obtain ⟨z, ez⟩ : ∃ yy, cmpi x B = yy := ⟨_, rfl⟩
    have z0 : decide ((0 : Int) < z) = false := decide_eq_false (by rw [← ez]; unfold cmpi; split <;> (try split) <;> omega)
    have C1 : Hid (∀ W v u, De W v x → De W u B → Calls Try.prog 24 #[v, u] W (fun e w' => e = .returned (.int .i64 z) ∧ Bl W w')) := fun W v u h0 h1 => by
      have c := kCmp x B (sx.out.sd (by decide)) (sB.out.sd (by decide)) W v u h0 h1
      rw [ez] at c
      exact c
    have q4 := q2 (by omega)
    obtain ⟨T, eT⟩ : ∃ yy, S + x = yy := ⟨_, rfl⟩
    have sT : Hid (Sz 41 T) := (by rw [← eT]; exact sS.out.add (sx.out.mono (by decide)))
    rw [eT] at q4
    have q5 : T - A * A = x := by rw [eS, ← eT]; omega
    have A2 : Hid (∀ W v u, De W v S → De W u x → Calls Try.prog 23 #[v, u] W (RwEnd .i64 W (dig 65536 T))) := fun W v u h0 h1 => by
      have c := kAdd S x (sS.out.sd (by decide)) (sx.out.sd (by decide)) W v u h0 h1
      rw [eT] at c
      exact c
    have W3 : Hid (∀ W v, De W v T → Calls Try.prog 13 #[v] W (RwEnd .u64 W (dig 18446744073709551616 T))) := fun W v h0 => by
      have c := kWords T (sT.out.sd (by decide)) W v h0
      exact c
    have K3 : Hid (∀ W v, Nu W v T → Calls Try.prog 11 #[v] W (RwEnd2 .u64 W (dig 18446744073709551616 A) (dig 18446744073709551616 x))) := fun W v h0 => by
      have c := pSqrt W v T 41 h0 sT.out (by decide)
      rw [q4, q5] at c
      exact c
    have W4 : Hid (∀ W v, De W v x → Calls Try.prog 13 #[v] W (RwEnd .u64 W (dig 18446744073709551616 x))) := fun W v h0 => by
      have c := kWords x (sx.out.sd (by decide)) W v h0
      exact c
    have E2 := Lib.hid (kSame x (sx.out.sd (by decide)))
    clear ha ra hna hla hf eA hx q1 q2 q3 eS eB hlt ez q4 q5 eT
    go_enter Try.func6, Try.ntmps6
    go_wp2_with (first
      | (go_at_call 10; (with_reducible refine (shown12_any _).mono ?_); rintro e w1 ⟨rfl, hb'⟩; have G1 := Lib.hid hb'; clear hb')
      | (go_at_call 14; (with_reducible refine (D1.out _ _ (Na.out.bl G1.out)).mono ?_); rintro e w2 ⟨d1, rfl, hr, hb'⟩; have G_1 := Lib.hid (hr); have G2 := Lib.hid hb'; clear hr hb')
      | (go_at_call 22; (with_reducible refine (M1.out _ _ _ G_1.out G_1.out).mono ?_); rintro e w3 ⟨d2, rfl, hr, hb'⟩; have G_2 := Lib.hid (hr); have G3 := Lib.hid hb'; clear hr hb')
      | (go_at_call 13; (with_reducible refine (W1.out _ _ G_2.out).mono ?_); rintro e w4 ⟨d3, rfl, hr, hb'⟩; have N3 := Lib.hid (Nu.dig hr sS.out (by decide)); have G4 := Lib.hid hb'; clear hr hb')
      | (go_at_call 11; (with_reducible refine (K1.out _ _ N3.out).mono ?_); rintro e w5 ⟨q, r, rfl, hr, hs, hb'⟩; have Rq := Lib.hid (hr); have Rr := Lib.hid (hs); have G5 := Lib.hid hb'; clear hr hs hb'; obtain ⟨A_1, k_1, e_1⟩ := rw_shape Rr.out L0.out; subst e_1)
      | (go_at_call 13; (with_reducible refine (W2.out _ _ (G_1.out.bl (G3.out.trans (G4.out.trans G5.out)))).mono ?_); rintro e w6 ⟨d4, rfl, hr, hb'⟩; have R4 := Lib.hid (hr); have G6 := Lib.hid hb'; clear hr hb')
      | (go_at_call 16; (with_reducible refine (E1.out _ _ _ (Rq.out.bl G6.out) R4.out).mono ?_); rintro e w7 ⟨rfl, hb'⟩; have G7 := Lib.hid hb'; clear hb')
      | (go_at_call 13; (with_reducible refine (W1.out _ _ (G_2.out.bl (G4.out.trans (G5.out.trans (G6.out.trans G7.out))))).mono ?_); rintro e w8 ⟨d5, rfl, hr, hb'⟩; have N5 := Lib.hid (Nu.dig hr sS.out (by decide)); have G8 := Lib.hid hb'; clear hr hb')
      | (go_at_call 17; (with_reducible refine (K2.out _ _ N5.out).mono ?_); rintro e w9 ⟨rfl, hb'⟩; have G9 := Lib.hid hb'; clear hb')
      | (go_at_call 14; (with_reducible refine (D2.out _ _ (nu_lit (by simp) rfl HX.out)).mono ?_); rintro e w10 ⟨d6, rfl, hr, hb'⟩; have G_6 := Lib.hid (hr); have G10 := Lib.hid (((Bl.refl _).alloc _).trans hb'); clear hr hb')
      | (go_at_call 23; (with_reducible refine (A1.out _ _ _ (G_1.out.bl (G3.out.trans (G4.out.trans (G5.out.trans (G6.out.trans (G7.out.trans (G8.out.trans (G9.out.trans G10.out)))))))) (G_1.out.bl (G3.out.trans (G4.out.trans (G5.out.trans (G6.out.trans (G7.out.trans (G8.out.trans (G9.out.trans G10.out))))))))).mono ?_); rintro e w11 ⟨d7, rfl, hr, hb'⟩; have G_7 := Lib.hid (hr); have G11 := Lib.hid hb'; clear hr hb')
      | (go_at_call 24; (with_reducible refine (C1.out _ _ _ (G_6.out.bl G11.out) G_7.out).mono ?_); rintro e w12 ⟨rfl, hb'⟩; have G12 := Lib.hid hb'; clear hb')
      | (go_at_call 23; (with_reducible refine (A2.out _ _ _ (G_2.out.bl (G4.out.trans (G5.out.trans (G6.out.trans (G7.out.trans (G8.out.trans (G9.out.trans (G10.out.trans (G11.out.trans G12.out))))))))) (G_6.out.bl (G11.out.trans G12.out))).mono ?_); rintro e w13 ⟨d8, rfl, hr, hb'⟩; have G_8 := Lib.hid (hr); have G13 := Lib.hid hb'; clear hr hb')
      | (go_at_call 13; (with_reducible refine (W3.out _ _ G_8.out).mono ?_); rintro e w14 ⟨d9, rfl, hr, hb'⟩; have N9 := Lib.hid (Nu.dig hr sT.out (by decide)); have G14 := Lib.hid hb'; clear hr hb')
      | (go_at_call 11; (with_reducible refine (K3.out _ _ N9.out).mono ?_); rintro e w15 ⟨y, t, rfl, hr, hs, hb'⟩; have Ry := Lib.hid (hr); have Rt := Lib.hid (hs); have G15 := Lib.hid hb'; clear hr hs hb')
      | (go_at_call 16; (with_reducible refine (E1.out _ _ _ Ry.out (Rq.out.bl (G6.out.trans (G7.out.trans (G8.out.trans (G9.out.trans (G10.out.trans (G11.out.trans (G12.out.trans (G13.out.trans (G14.out.trans G15.out))))))))))).mono ?_); rintro e w16 ⟨rfl, hb'⟩; have G16 := Lib.hid hb'; clear hb')
      | (go_at_call 13; (with_reducible refine (W4.out _ _ (G_6.out.bl (G11.out.trans (G12.out.trans (G13.out.trans (G14.out.trans (G15.out.trans G16.out))))))).mono ?_); rintro e w17 ⟨d10, rfl, hr, hb'⟩; have R10 := Lib.hid (hr); have G17 := Lib.hid hb'; clear hr hb')
      | (go_at_call 16; (with_reducible refine (E2.out _ _ _ (Rt.out.bl (G16.out.trans G17.out)) R10.out).mono ?_); rintro e w18 ⟨rfl, hb'⟩; have G18 := Lib.hid hb'; clear hb'))
    go_ret
    exact ⟨rfl, (G1.out.trans (G2.out.trans (G3.out.trans (G4.out.trans (G5.out.trans (G6.out.trans (G7.out.trans (G8.out.trans (G9.out.trans (G10.out.trans (G11.out.trans (G12.out.trans (G13.out.trans (G14.out.trans (G15.out.trans (G16.out.trans (G17.out.trans G18.out)))))))))))))))))⟩
end Go.Proofs.Ytojpfijjnocboaa
