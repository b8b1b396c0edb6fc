/-
  The walks of the statements of layer 4: NatLaws.
-/
import Derived.Test.YtdbmfbfdiadiaaaNatR
namespace Go.Proofs.Ytdbmfbfdiadiaaa
open Go.RowKit
set_option linter.unusedVariables false

set_option maxRecDepth 100000 in
set_option maxHeartbeats 8000000 in
theorem natLaws_walk' (hAdd : CAdd) (hShr : CShr) (hCmp : CCmp) (hScale : CScale) (va : Value) (la : List Nat) (vb : Value) (lb : List Nat) (vc : Value) (lc : List Nat) (y : Nat) (ha : All 18446744073709551616 la) (hb : All 18446744073709551616 lb) (hc : All 18446744073709551616 lc) (hy : y < 18446744073709551616) (w : World) (ra : Rw .u64 w va la) (rb : Rw .u64 w vb lb) (rc : Rw .u64 w vc lc) :
    Calls Try.prog 8 #[.agg #[va, vb, vc, .int .u64 (y : Int)]] w fun e w' => e = .returned (.bool true) ∧ Bl w w' := by
  by_cases hf : la.length ≤ 40 ∧ lb.length ≤ 40
  · by_cases hg : lc.length ≤ 40
    · have FE := Lib.hid (fun W h1 h2 => few_yes va vb la lb hf.1 hf.2 W h1 h2)
      have FC := Lib.hid (fun W h1 h2 => few_yes vc (.slice none 0 0) lc [] hg (by simp) W h1 h2)
      have Na : Hid (Nu w va (val 18446744073709551616 la)) := Nu.mk ra ha (by omega)
      have sa := Lib.hid (Sz.of_val ha (k := 40) (by omega))
      have Qa := Lib.hid ra
      obtain ⟨A, eA⟩ : ∃ x, val 18446744073709551616 la = x := ⟨_, rfl⟩
      rw [eA] at Na sa
      have Nb : Hid (Nu w vb (val 18446744073709551616 lb)) := Nu.mk rb hb (by omega)
      have sb := Lib.hid (Sz.of_val hb (k := 40) (by omega))
      have Qb := Lib.hid rb
      obtain ⟨B, eB⟩ : ∃ x, val 18446744073709551616 lb = x := ⟨_, rfl⟩
      rw [eB] at Nb sb
      have Nc : Hid (Nu w vc (val 18446744073709551616 lc)) := Nu.mk rc hc (by omega)
      have sc := Lib.hid (Sz.of_val hc (k := 40) (by omega))
      have Qc := Lib.hid rc
      obtain ⟨C, eC⟩ : ∃ x, val 18446744073709551616 lc = x := ⟨_, rfl⟩
      rw [eC] at Nc sc
      obtain ⟨S, eS⟩ : ∃ S, A + B = S := ⟨_, rfl⟩
      obtain ⟨T, eT⟩ : ∃ T, B + C = T := ⟨_, rfl⟩
      obtain ⟨U, eU⟩ : ∃ U, S + C = U := ⟨_, rfl⟩
      obtain ⟨m, em⟩ : ∃ m, y % 8 = m := ⟨_, rfl⟩
      obtain ⟨M, eM⟩ : ∃ M, A * m = M := ⟨_, rfl⟩
      obtain ⟨X, eX⟩ : ∃ X, A * y = X := ⟨_, rfl⟩
      obtain ⟨Y, eY⟩ : ∃ Y, B * y = Y := ⟨_, rfl⟩
      obtain ⟨Z, eZ⟩ : ∃ Z, S * y = Z := ⟨_, rfl⟩
      have eXY : X + Y = Z := by rw [← eX, ← eY, ← eZ, ← eS, Nat.add_mul]
      have hm : m < 8 := by omega
      have rm : (y : Int) % 8 = (m : Int) := by omega
      have sS : Hid (Sz 41 S) := (by rw [← eS]; exact sa.out.add sb.out)
      have sT : Hid (Sz 41 T) := (by rw [← eT]; exact sb.out.add sc.out)
      have sU : Hid (Sz 42 U) := (by rw [← eU]; exact sS.out.add (sc.out.mono (by decide)))
      have sM : Hid (Sz 41 M) := (by rw [← eM]; exact sa.out.word (by omega))
      have sX : Hid (Sz 41 X) := (by rw [← eX]; exact sa.out.word hy)
      have sY : Hid (Sz 41 Y) := (by rw [← eY]; exact sb.out.word hy)
      have sZ : Hid (Sz 42 Z) := (by rw [← eZ]; exact sS.out.word hy)
      have sI : Hid (∀ i, i ≤ 7 → Sz 41 (A * i)) := fun i hi => sa.out.word (by omega)
      have K1 : Hid (∀ W v u, Nu W v A → Nu W u B → Calls Try.prog 19 #[v, u] W (RwEnd .u64 W (dig 18446744073709551616 (S)))) := fun W v u h1 h2 => by
        have c := hAdd W v u _ _ h1 h2
        rw [eS] at c
        exact c
      have K2 : Hid (∀ W v u, Nu W v B → Nu W u A → Calls Try.prog 19 #[v, u] W (RwEnd .u64 W (dig 18446744073709551616 (S)))) := fun W v u h1 h2 => by
        have c := hAdd W v u _ _ h1 h2
        rw [Nat.add_comm, eS] at c
        exact c
      have K3 : Hid (∀ W v u, Nu W v S → Nu W u S → Calls Try.prog 23 #[v, u] W fun e w => e = .returned (.int .i64 (0)) ∧ Bl W w) := fun W v u h1 h2 => by
        have c := hCmp W v u _ _ h1 h2
        rw [cmpi_eq rfl] at c
        exact c
      have K4 : Hid (∀ W v u, Nu W v S → Nu W u C → Calls Try.prog 19 #[v, u] W (RwEnd .u64 W (dig 18446744073709551616 (U)))) := fun W v u h1 h2 => by
        have c := hAdd W v u _ _ h1 h2
        rw [eU] at c
        exact c
      have K5 : Hid (∀ W v u, Nu W v B → Nu W u C → Calls Try.prog 19 #[v, u] W (RwEnd .u64 W (dig 18446744073709551616 (T)))) := fun W v u h1 h2 => by
        have c := hAdd W v u _ _ h1 h2
        rw [eT] at c
        exact c
      have K6 : Hid (∀ W v u, Nu W v A → Nu W u T → Calls Try.prog 19 #[v, u] W (RwEnd .u64 W (dig 18446744073709551616 (U)))) := fun W v u h1 h2 => by
        have c := hAdd W v u _ _ h1 h2
        rw [show A + T = U by omega] at c
        exact c
      have K7 : Hid (∀ W v u, Nu W v U → Nu W u U → Calls Try.prog 23 #[v, u] W fun e w => e = .returned (.int .i64 (0)) ∧ Bl W w) := fun W v u h1 h2 => by
        have c := hCmp W v u _ _ h1 h2
        rw [cmpi_eq rfl] at c
        exact c
      have KS : Hid (∀ W v, Nu W v A → Calls Try.prog 21 #[v, .int .u64 (m : Int)] W (RwEnd .u64 W (dig 18446744073709551616 M))) := fun W v h1 => by
        have c := hScale W v A m h1 (by omega)
        rw [eM] at c
        exact c
      have KM : Hid (∀ W v u, Nu W v M → Nu W u M → Calls Try.prog 23 #[v, u] W fun e w => e = .returned (.int .i64 (0)) ∧ Bl W w) := fun W v u h1 h2 => by
        have c := hCmp W v u _ _ h1 h2
        rw [cmpi_eq rfl] at c
        exact c
      have KSX : Hid (∀ W v, Nu W v A → Calls Try.prog 21 #[v, .int .u64 (y : Int)] W (RwEnd .u64 W (dig 18446744073709551616 X))) := fun W v h1 => by
        have c := hScale W v A y h1 hy
        rw [eX] at c
        exact c
      have KSY : Hid (∀ W v, Nu W v B → Calls Try.prog 21 #[v, .int .u64 (y : Int)] W (RwEnd .u64 W (dig 18446744073709551616 Y))) := fun W v h1 => by
        have c := hScale W v B y h1 hy
        rw [eY] at c
        exact c
      have KSZ : Hid (∀ W v, Nu W v S → Calls Try.prog 21 #[v, .int .u64 (y : Int)] W (RwEnd .u64 W (dig 18446744073709551616 Z))) := fun W v h1 => by
        have c := hScale W v S y h1 hy
        rw [eZ] at c
        exact c
      have K8 : Hid (∀ W v u, Nu W v X → Nu W u Y → Calls Try.prog 19 #[v, u] W (RwEnd .u64 W (dig 18446744073709551616 (Z)))) := fun W v u h1 h2 => by
        have c := hAdd W v u _ _ h1 h2
        rw [eXY] at c
        exact c
      have K9 : Hid (∀ W v u, Nu W v Z → Nu W u Z → Calls Try.prog 23 #[v, u] W fun e w => e = .returned (.int .i64 (0)) ∧ Bl W w) := fun W v u h1 h2 => by
        have c := hCmp W v u _ _ h1 h2
        rw [cmpi_eq rfl] at c
        exact c
      have KI : Hid (∀ i, ∀ W v u, Nu W v (A * i) → Nu W u A → Calls Try.prog 19 #[v, u] W (RwEnd .u64 W (dig 18446744073709551616 (A * (i + 1))))) := fun i W v u h1 h2 => by
        have c := hAdd W v u _ _ h1 h2
        rw [← Nat.mul_succ] at c
        exact c
      have HM := Lib.hid eM
      clear ha hb hc ra rb rc eA eB eC hf hg eS eT eU em eM eX eY eZ eXY hy
      go_enter Try.func8, Try.ntmps8
      go_wp2_with (first
        | (go_at_call 11; (with_reducible refine (shown4_any hAdd hShr _).mono ?_); rintro e w1 ⟨rfl, hb'⟩; have G1 := Lib.hid (((Bl.refl _).alloc _).trans hb'); clear hb')
        | (go_at_call 12; (with_reducible refine (FE.out _ (Qa.out.bl G1.out) (Qb.out.bl G1.out)).mono ?_); rintro e w' ⟨rfl, rfl⟩)
        | (go_at_call 12; (with_reducible refine (FC.out _ (Qc.out.bl G1.out) (Rw.nil _ _)).mono ?_); rintro e w' ⟨rfl, rfl⟩))
      go_loopw [9, 10] (fun sv z wo => ∃ i : Nat, i ≤ m ∧ z = .int .u64 (i : Int) ∧ Hid (Nu wo sv (A * i)) ∧ Hid (Bl w wo)) (fun _ z _ => m - (intOf z).toNat)
      case atStart =>
        refine ⟨0, Nat.zero_le _, rfl, ?_, ?_⟩
        · exact ⟨[], ⟨_, _, rfl, Nat.le_refl _, by decide, fun _ => rfl, Src.nil _ _ _⟩, all_nil _, by decide, by simp [val]⟩
        · exact (G1.out.alloc _)
      case round =>
        obtain ⟨i, hi, rfl, hs, hb⟩ := hrel
        have Ma := Lib.hid (Na.out.bl hb.out)
        by_cases him : i < m
        · have hi8 : (i : Int) < 8 := by omega
          have Ki := Lib.hid (KI.out i)
          have si : Hid (Sz 41 (A * (i + 1))) := sI.out (i + 1) (by omega)
          go_wp2_with (go_at_call 19; (with_reducible refine (Ki.out _ _ _ hs.out Ma.out).mono ?_); rintro e w2 ⟨v2, rfl, hr, hb'⟩; have N2 := Lib.hid (Nu.dig hr si.out (by decide)); have G2 := Lib.hid hb'; clear hr hb')
          go_roundw
          case rel => exact ⟨i + 1, by omega, by go_num, N2.out, hb.out.trans G2.out⟩
          case measure => simp [intOf] <;> omega
        · have him' : i = m := by omega
          subst him'
          rw [HM.out] at hs
          have Mb := Lib.hid (Nb.out.bl hb.out)
          have Mc := Lib.hid (Nc.out.bl hb.out)
          go_wp2_with (first
            | (go_at_call 19; (with_reducible refine (K1.out _ _ _ Ma.out Mb.out).mono ?_); rintro e w1 ⟨v1, rfl, hr, hb'⟩; have N1 := Lib.hid (Nu.dig hr sS.out (by decide)); have G1 := Lib.hid hb'; clear hr hb')
            | (go_at_call 19; (with_reducible refine (K2.out _ _ _ (Mb.out.bl G1.out) (Ma.out.bl G1.out)).mono ?_); rintro e w2 ⟨v2, rfl, hr, hb'⟩; have N2 := Lib.hid (Nu.dig hr sS.out (by decide)); have G2 := Lib.hid hb'; clear hr hb')
            | (go_at_call 23; (with_reducible refine (K3.out _ _ _ (N1.out.bl G2.out) N2.out).mono ?_); rintro e w3 ⟨rfl, hb'⟩; have G3 := Lib.hid hb'; clear hb')
            | (go_at_call 19; (with_reducible refine (K1.out _ _ _ (Ma.out.bl (G1.out.trans (G2.out.trans G3.out))) (Mb.out.bl (G1.out.trans (G2.out.trans G3.out)))).mono ?_); rintro e w4 ⟨v3, rfl, hr, hb'⟩; have N3 := Lib.hid (Nu.dig hr sS.out (by decide)); have G4 := Lib.hid hb'; clear hr hb')
            | (go_at_call 19; (with_reducible refine (K4.out _ _ _ N3.out (Mc.out.bl (G1.out.trans (G2.out.trans (G3.out.trans G4.out))))).mono ?_); rintro e w5 ⟨v4, rfl, hr, hb'⟩; have N4 := Lib.hid (Nu.dig hr sU.out (by decide)); have G5 := Lib.hid hb'; clear hr hb')
            | (go_at_call 19; (with_reducible refine (K5.out _ _ _ (Mb.out.bl (G1.out.trans (G2.out.trans (G3.out.trans (G4.out.trans G5.out))))) (Mc.out.bl (G1.out.trans (G2.out.trans (G3.out.trans (G4.out.trans G5.out)))))).mono ?_); rintro e w6 ⟨v5, rfl, hr, hb'⟩; have N5 := Lib.hid (Nu.dig hr sT.out (by decide)); have G6 := Lib.hid hb'; clear hr hb')
            | (go_at_call 19; (with_reducible refine (K6.out _ _ _ (Ma.out.bl (G1.out.trans (G2.out.trans (G3.out.trans (G4.out.trans (G5.out.trans G6.out)))))) N5.out).mono ?_); rintro e w7 ⟨v6, rfl, hr, hb'⟩; have N6 := Lib.hid (Nu.dig hr sU.out (by decide)); have G7 := Lib.hid hb'; clear hr hb')
            | (go_at_call 23; (with_reducible refine (K7.out _ _ _ (N4.out.bl (G6.out.trans G7.out)) N6.out).mono ?_); rintro e w8 ⟨rfl, hb'⟩; have G8 := Lib.hid hb'; clear hb')
            | (go_at_call 21; (with_reducible refine (KS.out _ _ (Ma.out.bl (G1.out.trans (G2.out.trans (G3.out.trans (G4.out.trans (G5.out.trans (G6.out.trans (G7.out.trans G8.out))))))))).mono ?_); rintro e w9 ⟨v7, rfl, hr, hb'⟩; have N7 := Lib.hid (Nu.dig hr sM.out (by decide)); have G9 := Lib.hid hb'; clear hr hb')
            | (go_at_call 23; (with_reducible refine (KM.out _ _ _ (hs.out.bl (G1.out.trans (G2.out.trans (G3.out.trans (G4.out.trans (G5.out.trans (G6.out.trans (G7.out.trans (G8.out.trans G9.out))))))))) N7.out).mono ?_); rintro e w10 ⟨rfl, hb'⟩; have G10 := Lib.hid hb'; clear hb')
            | (go_at_call 19; (with_reducible refine (K1.out _ _ _ (Ma.out.bl (G1.out.trans (G2.out.trans (G3.out.trans (G4.out.trans (G5.out.trans (G6.out.trans (G7.out.trans (G8.out.trans (G9.out.trans G10.out)))))))))) (Mb.out.bl (G1.out.trans (G2.out.trans (G3.out.trans (G4.out.trans (G5.out.trans (G6.out.trans (G7.out.trans (G8.out.trans (G9.out.trans G10.out))))))))))).mono ?_); rintro e w11 ⟨v8, rfl, hr, hb'⟩; have N8 := Lib.hid (Nu.dig hr sS.out (by decide)); have G11 := Lib.hid hb'; clear hr hb')
            | (go_at_call 21; (with_reducible refine (KSZ.out _ _ N8.out).mono ?_); rintro e w12 ⟨v9, rfl, hr, hb'⟩; have N9 := Lib.hid (Nu.dig hr sZ.out (by decide)); have G12 := Lib.hid hb'; clear hr hb')
            | (go_at_call 21; (with_reducible refine (KSX.out _ _ (Ma.out.bl (G1.out.trans (G2.out.trans (G3.out.trans (G4.out.trans (G5.out.trans (G6.out.trans (G7.out.trans (G8.out.trans (G9.out.trans (G10.out.trans (G11.out.trans G12.out))))))))))))).mono ?_); rintro e w13 ⟨v10, rfl, hr, hb'⟩; have N10 := Lib.hid (Nu.dig hr sX.out (by decide)); have G13 := Lib.hid hb'; clear hr hb')
            | (go_at_call 21; (with_reducible refine (KSY.out _ _ (Mb.out.bl (G1.out.trans (G2.out.trans (G3.out.trans (G4.out.trans (G5.out.trans (G6.out.trans (G7.out.trans (G8.out.trans (G9.out.trans (G10.out.trans (G11.out.trans (G12.out.trans G13.out)))))))))))))).mono ?_); rintro e w14 ⟨v11, rfl, hr, hb'⟩; have N11 := Lib.hid (Nu.dig hr sY.out (by decide)); have G14 := Lib.hid hb'; clear hr hb')
            | (go_at_call 19; (with_reducible refine (K8.out _ _ _ (N10.out.bl G14.out) N11.out).mono ?_); rintro e w15 ⟨v12, rfl, hr, hb'⟩; have N12 := Lib.hid (Nu.dig hr sZ.out (by decide)); have G15 := Lib.hid hb'; clear hr hb')
            | (go_at_call 23; (with_reducible refine (K9.out _ _ _ (N9.out.bl (G13.out.trans (G14.out.trans G15.out))) N12.out).mono ?_); rintro e w16 ⟨rfl, hb'⟩; have G16 := Lib.hid hb'; clear hb'))
          go_ret
          exact ⟨rfl, hb.out.trans (G1.out.trans (G2.out.trans (G3.out.trans (G4.out.trans (G5.out.trans (G6.out.trans (G7.out.trans (G8.out.trans (G9.out.trans (G10.out.trans (G11.out.trans (G12.out.trans (G13.out.trans (G14.out.trans (G15.out.trans G16.out)))))))))))))))⟩
    · have FE := Lib.hid (fun W h1 h2 => few_yes va vb la lb hf.1 hf.2 W h1 h2)
      have FC := Lib.hid (fun W h1 h2 => few_no vc (.slice none 0 0) lc [] (fun h => hg h.1) (rw_len rc) (by simp) W h1 h2)
      have Qa := Lib.hid ra
      have Qb := Lib.hid rb
      have Qc := Lib.hid rc
      clear ha hb hc ra rb rc hf hg hy
      go_enter Try.func8, Try.ntmps8
      go_wp2_with (first
        | (go_at_call 11; (with_reducible refine (shown4_any hAdd hShr _).mono ?_); rintro e w1 ⟨rfl, hb'⟩; have G1 := Lib.hid (((Bl.refl _).alloc _).trans hb'); clear hb')
        | (go_at_call 12; (with_reducible refine (FE.out _ (Qa.out.bl G1.out) (Qb.out.bl G1.out)).mono ?_); rintro e w' ⟨rfl, rfl⟩)
        | (go_at_call 12; (with_reducible refine (FC.out _ (Qc.out.bl G1.out) (Rw.nil _ _)).mono ?_); rintro e w' ⟨rfl, rfl⟩))
      go_ret
      exact ⟨rfl, G1.out⟩
  · skip
    have FE := Lib.hid (fun W h1 h2 => few_no va vb la lb hf (rw_len ra) (rw_len rb) W h1 h2)
    have Qa := Lib.hid ra
    have Qb := Lib.hid rb
    clear ha hb hc ra rb rc hf hy
    go_enter Try.func8, Try.ntmps8
    go_wp2_with (first
      | (go_at_call 11; (with_reducible refine (shown4_any hAdd hShr _).mono ?_); rintro e w1 ⟨rfl, hb'⟩; have G1 := Lib.hid (((Bl.refl _).alloc _).trans hb'); clear hb')
      | (go_at_call 12; (with_reducible refine (FE.out _ (Qa.out.bl G1.out) (Qb.out.bl G1.out)).mono ?_); rintro e w' ⟨rfl, rfl⟩))
    go_ret
    exact ⟨rfl, G1.out⟩
end Go.Proofs.Ytdbmfbfdiadiaaa
