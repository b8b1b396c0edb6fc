/-
  The walk of RootRises.
-/
import Derived.Test.YtojpfijjnocboaaPk42
namespace Go.Proofs.Ytojpfijjnocboaa
open Go.RowKit
set_option linter.unusedVariables false
set_option linter.unusedSimpArgs false

set_option maxRecDepth 100000 in
set_option maxHeartbeats 8000000 in
theorem rootRises_walk (va : Value) (la : List Nat) (vb : Value) (lb : List Nat) (ha : All 18446744073709551616 la) (hb : All 18446744073709551616 lb) (w : World) (ra : Rw .u64 w va la) (rb : Rw .u64 w vb lb) :
    Calls Try.prog 8 #[va, vb] w fun e w' => e = .returned (.bool true) ∧ Bl w w' := by
  obtain ⟨na, hna⟩ : ∃ n, la.length = n := ⟨_, rfl⟩
  have hla := rw_len ra
  obtain ⟨Za, ka, eva⟩ := rw_shape ra hna
  subst eva
  rw [hna] at hla
  have iba : (na : Int) ≤ 9223372036854775807 := by omega
  obtain ⟨nb, hnb⟩ : ∃ n, lb.length = n := ⟨_, rfl⟩
  have hlb := rw_len rb
  obtain ⟨Zb, kb, evb⟩ := rw_shape rb hnb
  subst evb
  rw [hnb] at hlb
  have ibb : (nb : Int) ≤ 9223372036854775807 := by omega
  by_cases hf : 20 < na
  · skip
    have d1a : decide ((20 : Int) < (na : Int)) = true := decide_eq_true (by omega)
    have d2a : decide (20 < na) = true := decide_eq_true (by omega)
    clear ha hb ra rb hna hnb hla hlb hf
    go_enter Try.func8, Try.ntmps8
    go_wp2_with (first
      | (go_at_call 10; (with_reducible refine (shown12_any _).mono ?_); rintro e w1 ⟨rfl, hb'⟩; have G1 := Lib.hid hb'; clear hb'))
    go_ret
    exact ⟨rfl, G1.out⟩
  have d1a : decide ((20 : Int) < (na : Int)) = false := decide_eq_false (by omega)
  have d2a : decide (20 < na) = false := decide_eq_false (by omega)
  by_cases hg : 20 < nb
  · skip
    have d1b : decide ((20 : Int) < (nb : Int)) = true := decide_eq_true (by omega)
    have d2b : decide (20 < nb) = true := decide_eq_true (by omega)
    clear ha hb ra rb hna hnb hla hlb hf hg
    go_enter Try.func8, Try.ntmps8
    go_wp2_with (first
      | (go_at_call 10; (with_reducible refine (shown12_any _).mono ?_); rintro e w1 ⟨rfl, hb'⟩; have G1 := Lib.hid hb'; clear hb'))
    go_ret
    exact ⟨rfl, G1.out⟩
  have d1b : decide ((20 : Int) < (nb : Int)) = false := decide_eq_false (by omega)
  have d2b : decide (20 < nb) = false := decide_eq_false (by omega)
  have Na : Hid (Nu w (.slice Za na ka) (val 18446744073709551616 la)) := Nu.mk ra ha (by omega)
  have sA := Lib.hid (Sz.of_val ha (k := 20) (by omega))
  obtain ⟨A, eA⟩ : ∃ x, val 18446744073709551616 la = x := ⟨_, rfl⟩
  rw [eA] at Na sA
  have Nb : Hid (Nu w (.slice Zb nb kb) (val 18446744073709551616 lb)) := Nu.mk rb hb (by omega)
  have sB := Lib.hid (Sz.of_val hb (k := 20) (by omega))
  obtain ⟨B, eB⟩ : ∃ x, val 18446744073709551616 lb = x := ⟨_, rfl⟩
  rw [eB] at Nb sB
  obtain ⟨S, eS⟩ : ∃ yy, A + B = yy := ⟨_, rfl⟩
  have sS : Hid (Sz 21 S) := (by rw [← eS]; exact sA.out.add sB.out)
  have m1 : isq A ≤ isq S := isq_mono (by omega)
  have m2 := isq_four A
  obtain ⟨I, eI⟩ : ∃ yy, isq A = yy := ⟨_, rfl⟩
  have sI : Hid (Sz 20 I) := (by rw [← eI]; exact sA.out.le (isq_self A))
  obtain ⟨R, eR⟩ : ∃ yy, A - I * I = yy := ⟨_, rfl⟩
  obtain ⟨J, eJ⟩ : ∃ yy, isq S = yy := ⟨_, rfl⟩
  have sJ : Hid (Sz 21 J) := (by rw [← eJ]; exact sS.out.le (isq_self S))
  obtain ⟨T, eT⟩ : ∃ yy, S - J * J = yy := ⟨_, rfl⟩
  have L4 : Hid (∀ (w : World) (b : Nat), b = w.heap.size → De (w.alloc (.cells #[.int .i64 4] 3)) (.slice (some ⟨b, 0, none⟩) 1 1) 4) := fun w b hb => de_lit (by decide +kernel) hb
  have s4 : Hid (Sz 1 4) := by show Sz 1 4; unfold Sz; decide
  have L2 : Hid (∀ (w : World) (b : Nat), b = w.heap.size → De (w.alloc (.cells #[.int .i64 2] 3)) (.slice (some ⟨b, 0, none⟩) 1 1) 2) := fun w b hb => de_lit (by decide +kernel) hb
  have s2 : Hid (Sz 1 2) := by show Sz 1 2; unfold Sz; decide
  have L1 : Hid (∀ (w : World) (b : Nat), b = w.heap.size → De (w.alloc (.cells #[.int .i64 1] 3)) (.slice (some ⟨b, 0, none⟩) 1 1) 1) := fun w b hb => de_lit (by decide +kernel) hb
  have s1 : Hid (Sz 1 1) := by show Sz 1 1; unfold Sz; decide
  obtain ⟨F, eF⟩ : ∃ yy, A * 4 = yy := ⟨_, rfl⟩
  have sF : Hid (Sz 21 F) := (by rw [← eF]; exact szmul sA.out s4.out)
  obtain ⟨G, eG⟩ : ∃ yy, isq F = yy := ⟨_, rfl⟩
  have sG : Hid (Sz 21 G) := (by rw [← eG]; exact sF.out.le (isq_self F))
  obtain ⟨U, eU⟩ : ∃ yy, F - G * G = yy := ⟨_, rfl⟩
  rw [eI, eJ] at m1
  rw [eF, eG, eI] at m2
  obtain ⟨H, eH⟩ : ∃ yy, I * 2 = yy := ⟨_, rfl⟩
  have sH : Hid (Sz 21 H) := (by rw [← eH]; exact szmul sI.out s2.out)
  obtain ⟨M, eM⟩ : ∃ yy, H + 1 = yy := ⟨_, rfl⟩
  have sM : Hid (Sz 22 M) := (by rw [← eM]; exact sz_succ sH.out)
  have D1 : Hid (∀ W v, Nu W v A → Calls Try.prog 14 #[v] W (RwEnd .i64 W (dig 65536 A))) := fun W v h0 => by
    have c := kDg h0
    exact c
  have D2 : Hid (∀ W v, Nu W v B → Calls Try.prog 14 #[v] W (RwEnd .i64 W (dig 65536 B))) := fun W v h0 => by
    have c := kDg h0
    exact c
  have A1 : Hid (∀ W v u, De W v A → De W u B → Calls Try.prog 23 #[v, u] W (RwEnd .i64 W (dig 65536 S))) := fun W v u h0 h1 => by
    have c := kAdd A B (sA.out.sd (by decide)) (sB.out.sd (by decide)) W v u h0 h1
    rw [eS] at c
    exact c
  have K1 : Hid (∀ W v, Nu W v A → Calls Try.prog 11 #[v] W (RwEnd2 .u64 W (dig 18446744073709551616 I) (dig 18446744073709551616 R))) := fun W v h0 => by
    have c := pSqrt W v A 20 h0 sA.out (by decide)
    rw [eI, eR] at c
    exact c
  have W1 : Hid (∀ W v, De W v S → Calls Try.prog 13 #[v] W (RwEnd .u64 W (dig 18446744073709551616 S))) := fun W v h0 => by
    have c := kWords S (sS.out.sd (by decide)) W v h0
    exact c
  have K2 : Hid (∀ W v, Nu W v S → Calls Try.prog 11 #[v] W (RwEnd2 .u64 W (dig 18446744073709551616 J) (dig 18446744073709551616 T))) := fun W v h0 => by
    have c := pSqrt W v S 21 h0 sS.out (by decide)
    rw [eJ, eT] at c
    exact c
  have M1 : Hid (∀ W v u, De W v A → De W u 4 → Calls Try.prog 22 #[v, u] W (RwEnd .i64 W (dig 65536 F))) := fun W v u h0 h1 => by
    have c := kMul A 4 (sA.out.sd (by decide)) (s4.out.sd (by decide)) W v u h0 h1
    rw [eF] at c
    exact c
  have W2 : Hid (∀ W v, De W v F → Calls Try.prog 13 #[v] W (RwEnd .u64 W (dig 18446744073709551616 F))) := fun W v h0 => by
    have c := kWords F (sF.out.sd (by decide)) W v h0
    exact c
  have K3 : Hid (∀ W v, Nu W v F → Calls Try.prog 11 #[v] W (RwEnd2 .u64 W (dig 18446744073709551616 G) (dig 18446744073709551616 U))) := fun W v h0 => by
    have c := pSqrt W v F 21 h0 sF.out (by decide)
    rw [eG, eU] at c
    exact c
  have D3 : Hid (∀ W v, Nu W v I → Calls Try.prog 14 #[v] W (RwEnd .i64 W (dig 65536 I))) := fun W v h0 => by
    have c := kDg h0
    exact c
  have M2 : Hid (∀ W v u, De W v I → De W u 2 → Calls Try.prog 22 #[v, u] W (RwEnd .i64 W (dig 65536 H))) := fun W v u h0 h1 => by
    have c := kMul I 2 (sI.out.sd (by decide)) (s2.out.sd (by decide)) W v u h0 h1
    rw [eH] at c
    exact c
  have D4 : Hid (∀ W v, Nu W v G → Calls Try.prog 14 #[v] W (RwEnd .i64 W (dig 65536 G))) := fun W v h0 => by
    have c := kDg h0
    exact c
  have D5 : Hid (∀ W v, Nu W v J → Calls Try.prog 14 #[v] W (RwEnd .i64 W (dig 65536 J))) := fun W v h0 => by
    have c := kDg h0
    exact c
  obtain ⟨z, ez⟩ : ∃ yy, cmpi J I = yy := ⟨_, rfl⟩
  have z0 : decide ((0 : Int) ≤ z) = true := decide_eq_true (by rw [← ez]; unfold cmpi; split <;> (try split) <;> omega)
  have C1 : Hid (∀ W v u, De W v J → De W u I → Calls Try.prog 24 #[v, u] W (fun e w' => e = .returned (.int .i64 z) ∧ Bl W w')) := fun W v u h0 h1 => by
    have c := kCmp J I (sJ.out.sd (by decide)) (sI.out.sd (by decide)) W v u h0 h1
    rw [ez] at c
    exact c
  by_cases hE : G = H
  · skip
    have C2 : Hid (∀ W v u, De W v G → De W u H → Calls Try.prog 24 #[v, u] W (fun e w' => e = .returned (.int .i64 0) ∧ Bl W w')) := fun W v u h0 h1 => by
      have c := kCmp G H (sG.out.sd (by decide)) (sH.out.sd (by decide)) W v u h0 h1
      rw [cmpi_eq hE] at c
      exact c
    clear ha hb ra rb hna hnb hla hlb hf hg eA eB m1 m2 eS eI eR eJ eT eF eG eU eH eM ez hE
    go_enter Try.func8, Try.ntmps8
    go_wp2_with (first
      | (go_at_call 10; (with_reducible refine (shown12_any _).mono ?_); rintro e w1 ⟨rfl, hb'⟩; have G1 := Lib.hid hb'; clear hb')
      | (go_at_call 14; (with_reducible refine (D1.out _ _ (Na.out.bl G1.out)).mono ?_); rintro e w2 ⟨d1, rfl, hr, hb'⟩; have G_1 := Lib.hid (hr); have G2 := Lib.hid hb'; clear hr hb')
      | (go_at_call 14; (with_reducible refine (D2.out _ _ (Nb.out.bl (G1.out.trans G2.out))).mono ?_); rintro e w3 ⟨d2, rfl, hr, hb'⟩; have G_2 := Lib.hid (hr); have G3 := Lib.hid hb'; clear hr hb')
      | (go_at_call 23; (with_reducible refine (A1.out _ _ _ (G_1.out.bl G3.out) G_2.out).mono ?_); rintro e w4 ⟨d3, rfl, hr, hb'⟩; have G_3 := Lib.hid (hr); have G4 := Lib.hid hb'; clear hr hb')
      | (go_at_call 11; (with_reducible refine (K1.out _ _ (Na.out.bl (G1.out.trans (G2.out.trans (G3.out.trans G4.out))))).mono ?_); rintro e w5 ⟨q, q1, rfl, hr, hs, hb'⟩; have Nq := Lib.hid (Nu.dig hr sI.out (by decide)); have G5 := Lib.hid hb'; clear hr hs hb')
      | (go_at_call 13; (with_reducible refine (W1.out _ _ (G_3.out.bl G5.out)).mono ?_); rintro e w6 ⟨d4, rfl, hr, hb'⟩; have N4 := Lib.hid (Nu.dig hr sS.out (by decide)); have G6 := Lib.hid hb'; clear hr hb')
      | (go_at_call 11; (with_reducible refine (K2.out _ _ N4.out).mono ?_); rintro e w7 ⟨t1, t2, rfl, hr, hs, hb'⟩; have Nt := Lib.hid (Nu.dig hr sJ.out (by decide)); have G7 := Lib.hid hb'; clear hr hs hb')
      | (go_at_call 22; (with_reducible refine (M1.out _ _ _ (G_1.out.bl ((G3.out.trans (G4.out.trans (G5.out.trans (G6.out.trans G7.out)))).alloc _)) (L4.out _ _ rfl)).mono ?_); rintro e w8 ⟨d5, rfl, hr, hb'⟩; have G_5 := Lib.hid (hr); have G8 := Lib.hid (((Bl.refl _).alloc _).trans hb'); clear hr hb')
      | (go_at_call 13; (with_reducible refine (W2.out _ _ G_5.out).mono ?_); rintro e w9 ⟨d6, rfl, hr, hb'⟩; have N6 := Lib.hid (Nu.dig hr sF.out (by decide)); have G9 := Lib.hid hb'; clear hr hb')
      | (go_at_call 11; (with_reducible refine (K3.out _ _ N6.out).mono ?_); rintro e w10 ⟨f1, f2, rfl, hr, hs, hb'⟩; have Nf := Lib.hid (Nu.dig hr sG.out (by decide)); have G10 := Lib.hid hb'; clear hr hs hb')
      | (go_at_call 14; (with_reducible refine (D3.out _ _ (Nq.out.bl (G6.out.trans (G7.out.trans (G8.out.trans (G9.out.trans G10.out)))))).mono ?_); rintro e w11 ⟨d7, rfl, hr, hb'⟩; have G_7 := Lib.hid (hr); have G11 := Lib.hid hb'; clear hr hb')
      | (go_at_call 22; (with_reducible refine (M2.out _ _ _ (G_7.out.bl ((Bl.refl _).alloc _)) (L2.out _ _ rfl)).mono ?_); rintro e w12 ⟨d8, rfl, hr, hb'⟩; have G_8 := Lib.hid (hr); have G12 := Lib.hid (((Bl.refl _).alloc _).trans hb'); clear hr hb')
      | (go_at_call 14; (with_reducible refine (D4.out _ _ (Nf.out.bl (G11.out.trans G12.out))).mono ?_); rintro e w13 ⟨d9, rfl, hr, hb'⟩; have G_9 := Lib.hid (hr); have G13 := Lib.hid hb'; clear hr hb')
      | (go_at_call 14; (with_reducible refine (D5.out _ _ (Nt.out.bl (G8.out.trans (G9.out.trans (G10.out.trans (G11.out.trans (G12.out.trans G13.out))))))).mono ?_); rintro e w14 ⟨d10, rfl, hr, hb'⟩; have G_10 := Lib.hid (hr); have G14 := Lib.hid hb'; clear hr hb')
      | (go_at_call 14; (with_reducible refine (D3.out _ _ (Nq.out.bl (G6.out.trans (G7.out.trans (G8.out.trans (G9.out.trans (G10.out.trans (G11.out.trans (G12.out.trans (G13.out.trans G14.out)))))))))).mono ?_); rintro e w15 ⟨d11, rfl, hr, hb'⟩; have G_11 := Lib.hid (hr); have G15 := Lib.hid hb'; clear hr hb')
      | (go_at_call 24; (with_reducible refine (C1.out _ _ _ (G_10.out.bl G15.out) G_11.out).mono ?_); rintro e w16 ⟨rfl, hb'⟩; have G16 := Lib.hid hb'; clear hb')
      | (go_at_call 24; (with_reducible refine (C2.out _ _ _ (G_9.out.bl (G14.out.trans (G15.out.trans G16.out))) (G_8.out.bl (G13.out.trans (G14.out.trans (G15.out.trans G16.out))))).mono ?_); rintro e w17 ⟨rfl, hb'⟩; have G17 := Lib.hid hb'; clear hb'))
    go_ret
    exact ⟨rfl, (G1.out.trans (G2.out.trans (G3.out.trans (G4.out.trans (G5.out.trans (G6.out.trans (G7.out.trans (G8.out.trans (G9.out.trans (G10.out.trans (G11.out.trans (G12.out.trans (G13.out.trans (G14.out.trans (G15.out.trans (G16.out.trans G17.out))))))))))))))))⟩
  · skip
    have hG : H < G := by omega
    have hM : G = M := by omega
    have C2 : Hid (∀ W v u, De W v G → De W u H → Calls Try.prog 24 #[v, u] W (fun e w' => e = .returned (.int .i64 1) ∧ Bl W w')) := fun W v u h0 h1 => by
      have c := kCmp G H (sG.out.sd (by decide)) (sH.out.sd (by decide)) W v u h0 h1
      rw [cmpi_gt hG] at c
      exact c
    have A2 : Hid (∀ W v u, De W v H → De W u 1 → Calls Try.prog 23 #[v, u] W (RwEnd .i64 W (dig 65536 M))) := fun W v u h0 h1 => by
      have c := kAdd H 1 (sH.out.sd (by decide)) (s1.out.sd (by decide)) W v u h0 h1
      rw [eM] at c
      exact c
    have C3 : Hid (∀ W v u, De W v G → De W u M → Calls Try.prog 24 #[v, u] W (fun e w' => e = .returned (.int .i64 0) ∧ Bl W w')) := fun W v u h0 h1 => by
      have c := kCmp G M (sG.out.sd (by decide)) (sM.out.sd (by decide)) W v u h0 h1
      rw [cmpi_eq hM] at c
      exact c
    clear ha hb ra rb hna hnb hla hlb hf hg eA eB m1 m2 eS eI eR eJ eT eF eG eU eH eM ez hE hG hM
    go_enter Try.func8, Try.ntmps8
    go_wp2_with (first
      | (go_at_call 10; (with_reducible refine (shown12_any _).mono ?_); rintro e w1 ⟨rfl, hb'⟩; have G1 := Lib.hid hb'; clear hb')
      | (go_at_call 14; (with_reducible refine (D1.out _ _ (Na.out.bl G1.out)).mono ?_); rintro e w2 ⟨d1, rfl, hr, hb'⟩; have G_1 := Lib.hid (hr); have G2 := Lib.hid hb'; clear hr hb')
      | (go_at_call 14; (with_reducible refine (D2.out _ _ (Nb.out.bl (G1.out.trans G2.out))).mono ?_); rintro e w3 ⟨d2, rfl, hr, hb'⟩; have G_2 := Lib.hid (hr); have G3 := Lib.hid hb'; clear hr hb')
      | (go_at_call 23; (with_reducible refine (A1.out _ _ _ (G_1.out.bl G3.out) G_2.out).mono ?_); rintro e w4 ⟨d3, rfl, hr, hb'⟩; have G_3 := Lib.hid (hr); have G4 := Lib.hid hb'; clear hr hb')
      | (go_at_call 11; (with_reducible refine (K1.out _ _ (Na.out.bl (G1.out.trans (G2.out.trans (G3.out.trans G4.out))))).mono ?_); rintro e w5 ⟨q, q1, rfl, hr, hs, hb'⟩; have Nq := Lib.hid (Nu.dig hr sI.out (by decide)); have G5 := Lib.hid hb'; clear hr hs hb')
      | (go_at_call 13; (with_reducible refine (W1.out _ _ (G_3.out.bl G5.out)).mono ?_); rintro e w6 ⟨d4, rfl, hr, hb'⟩; have N4 := Lib.hid (Nu.dig hr sS.out (by decide)); have G6 := Lib.hid hb'; clear hr hb')
      | (go_at_call 11; (with_reducible refine (K2.out _ _ N4.out).mono ?_); rintro e w7 ⟨t1, t2, rfl, hr, hs, hb'⟩; have Nt := Lib.hid (Nu.dig hr sJ.out (by decide)); have G7 := Lib.hid hb'; clear hr hs hb')
      | (go_at_call 22; (with_reducible refine (M1.out _ _ _ (G_1.out.bl ((G3.out.trans (G4.out.trans (G5.out.trans (G6.out.trans G7.out)))).alloc _)) (L4.out _ _ rfl)).mono ?_); rintro e w8 ⟨d5, rfl, hr, hb'⟩; have G_5 := Lib.hid (hr); have G8 := Lib.hid (((Bl.refl _).alloc _).trans hb'); clear hr hb')
      | (go_at_call 13; (with_reducible refine (W2.out _ _ G_5.out).mono ?_); rintro e w9 ⟨d6, rfl, hr, hb'⟩; have N6 := Lib.hid (Nu.dig hr sF.out (by decide)); have G9 := Lib.hid hb'; clear hr hb')
      | (go_at_call 11; (with_reducible refine (K3.out _ _ N6.out).mono ?_); rintro e w10 ⟨f1, f2, rfl, hr, hs, hb'⟩; have Nf := Lib.hid (Nu.dig hr sG.out (by decide)); have G10 := Lib.hid hb'; clear hr hs hb')
      | (go_at_call 14; (with_reducible refine (D3.out _ _ (Nq.out.bl (G6.out.trans (G7.out.trans (G8.out.trans (G9.out.trans G10.out)))))).mono ?_); rintro e w11 ⟨d7, rfl, hr, hb'⟩; have G_7 := Lib.hid (hr); have G11 := Lib.hid hb'; clear hr hb')
      | (go_at_call 22; (with_reducible refine (M2.out _ _ _ (G_7.out.bl ((Bl.refl _).alloc _)) (L2.out _ _ rfl)).mono ?_); rintro e w12 ⟨d8, rfl, hr, hb'⟩; have G_8 := Lib.hid (hr); have G12 := Lib.hid (((Bl.refl _).alloc _).trans hb'); clear hr hb')
      | (go_at_call 14; (with_reducible refine (D4.out _ _ (Nf.out.bl (G11.out.trans G12.out))).mono ?_); rintro e w13 ⟨d9, rfl, hr, hb'⟩; have G_9 := Lib.hid (hr); have G13 := Lib.hid hb'; clear hr hb')
      | (go_at_call 14; (with_reducible refine (D5.out _ _ (Nt.out.bl (G8.out.trans (G9.out.trans (G10.out.trans (G11.out.trans (G12.out.trans G13.out))))))).mono ?_); rintro e w14 ⟨d10, rfl, hr, hb'⟩; have G_10 := Lib.hid (hr); have G14 := Lib.hid hb'; clear hr hb')
      | (go_at_call 14; (with_reducible refine (D3.out _ _ (Nq.out.bl (G6.out.trans (G7.out.trans (G8.out.trans (G9.out.trans (G10.out.trans (G11.out.trans (G12.out.trans (G13.out.trans G14.out)))))))))).mono ?_); rintro e w15 ⟨d11, rfl, hr, hb'⟩; have G_11 := Lib.hid (hr); have G15 := Lib.hid hb'; clear hr hb')
      | (go_at_call 24; (with_reducible refine (C1.out _ _ _ (G_10.out.bl G15.out) G_11.out).mono ?_); rintro e w16 ⟨rfl, hb'⟩; have G16 := Lib.hid hb'; clear hb')
      | (go_at_call 24; (with_reducible refine (C2.out _ _ _ (G_9.out.bl (G14.out.trans (G15.out.trans G16.out))) (G_8.out.bl (G13.out.trans (G14.out.trans (G15.out.trans G16.out))))).mono ?_); rintro e w17 ⟨rfl, hb'⟩; have G17 := Lib.hid hb'; clear hb')
      | (go_at_call 23; (with_reducible refine (A2.out _ _ _ (G_8.out.bl ((G13.out.trans (G14.out.trans (G15.out.trans (G16.out.trans G17.out)))).alloc _)) (L1.out _ _ rfl)).mono ?_); rintro e w18 ⟨d12, rfl, hr, hb'⟩; have G_12 := Lib.hid (hr); have G18 := Lib.hid (((Bl.refl _).alloc _).trans hb'); clear hr hb')
      | (go_at_call 24; (with_reducible refine (C3.out _ _ _ (G_9.out.bl (G14.out.trans (G15.out.trans (G16.out.trans (G17.out.trans G18.out))))) G_12.out).mono ?_); rintro e w19 ⟨rfl, hb'⟩; have G19 := Lib.hid hb'; clear hb'))
    go_ret
    exact ⟨rfl, (G1.out.trans (G2.out.trans (G3.out.trans (G4.out.trans (G5.out.trans (G6.out.trans (G7.out.trans (G8.out.trans (G9.out.trans (G10.out.trans (G11.out.trans (G12.out.trans (G13.out.trans (G14.out.trans (G15.out.trans (G16.out.trans (G17.out.trans (G18.out.trans G19.out))))))))))))))))))⟩
end Go.Proofs.Ytojpfijjnocboaa
