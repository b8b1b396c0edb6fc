/-
  The walks of the statements of layer 4: NatReckons.
-/
import Derived.Test.YtdbmfbfdiadiaaaNatR
namespace Go.Proofs.Ytdbmfbfdiadiaaa
open Go.RowKit
set_option linter.unusedVariables false

set_option maxRecDepth 100000 in
set_option maxHeartbeats 4000000 in
theorem natReckons_walk' (hAdd : CAdd) (hShr : CShr) (hSub : CSub) (hNorm : CNorm) (hScale : CScale) (hCmp : CCmp) (hLen : CLen) (va : Value) (la : List Nat) (vb : Value) (lb : List Nat) (y : Nat) (ha : All 18446744073709551616 la) (hb : All 18446744073709551616 lb) (hy : y < 18446744073709551616) (w : World) (ra : Rw .u64 w va la) (rb : Rw .u64 w vb lb) :
    Calls Try.prog 3 #[va, vb, .int .u64 (y : Int)] w fun e w' => e = .returned (.bool true) ∧ Bl w w' := by
  by_cases hf : la.length ≤ 40 ∧ lb.length ≤ 40
  · have FE := Lib.hid (fun W h1 h2 => few_yes va vb la lb hf.1 hf.2 W h1 h2)
    have Na : Hid (Nu w va (val 18446744073709551616 la)) := Nu.mk ra ha (by omega)
    have sa := Lib.hid (Sz.of_val ha (k := 40) (by omega))
    have Qa := Lib.hid ra
    obtain ⟨A, eA⟩ : ∃ x, val 18446744073709551616 la = x := ⟨_, rfl⟩
    rw [eA] at Na sa
    have Nb : Hid (Nu w vb (val 18446744073709551616 lb)) := Nu.mk rb hb (by omega)
    have sb := Lib.hid (Sz.of_val hb (k := 40) (by omega))
    have Qb := Lib.hid rb
    obtain ⟨B, eB⟩ : ∃ x, val 18446744073709551616 lb = x := ⟨_, rfl⟩
    rw [eB] at Nb sb
    have XA := Lib.hid (fun W h => kDigits (v := va) ha hf.1 eA W h)
    have XB := Lib.hid (fun W h => kDigits (v := vb) hb hf.2 eB W h)
    obtain ⟨T, eT⟩ : ∃ T, A * y = T := ⟨_, rfl⟩
    obtain ⟨S, eS⟩ : ∃ S, A + B = S := ⟨_, rfl⟩
    obtain ⟨cc, ecc⟩ : ∃ cc, cmpi A B = cc := ⟨_, rfl⟩
    obtain ⟨u, eu⟩ : ∃ u, blen A = u := ⟨_, rfl⟩
    have sS : Hid (Sz 41 S) := (by rw [← eS]; exact sa.out.add sb.out)
    have sT : Hid (Sz 41 T) := (by rw [← eT]; exact sa.out.word hy)
    have sY : Hid (Sz 1 y) := (by unfold Sz; rw [Nat.pow_one]; exact hy)
    have dA : Hid (Sd A) := sa.out.sd (by decide)
    have dB : Hid (Sd B) := sb.out.sd (by decide)
    have dS : Hid (Sd S) := sS.out.sd (by decide)
    have dT : Hid (Sd T) := sT.out.sd (by decide)
    have dY : Hid (Sd y) := sY.out.sd (by decide)
    have HY : Hid (y < 18446744073709551616) := hy
    have XL := Lib.hid (fun W h1 h2 => rless_any va vb la lb ha hb (by omega) (by omega) W h1 h2)
    rw [eA, eB] at XL
    have XS : Hid (∀ W v u, De W v A → De W u B → Calls Try.prog 20 #[v, u] W (RwEnd .i64 W (dig 65536 S))) := fun W v u h1 h2 => by
      have c := kAdd A B dA.out dB.out W v u h1 h2
      rw [eS] at c
      exact c
    have XM : Hid (∀ W v u, De W v A → De W u y → Calls Try.prog 22 #[v, u] W (RwEnd .i64 W (dig 65536 T))) := fun W v u h1 h2 => by
      have c := kMul A y dA.out dY.out W v u h1 h2
      rw [eT] at c
      exact c
    have XC : Hid (∀ W v u, De W v A → De W u B → Calls Try.prog 24 #[v, u] W fun e w => e = .returned (.int .i64 cc) ∧ Bl W w) := fun W v u h1 h2 => by
      have c := kCmp A B dA.out dB.out W v u h1 h2
      rw [ecc] at c
      exact c
    have XU : Hid (∀ W v, De W v A → Calls Try.prog 26 #[v] W fun e w => e = .returned (.int .i64 (u : Int)) ∧ W = w) := fun W v h1 => by
      have c := kBits A dA.out W v h1
      rw [eu] at c
      exact c
    have K1 : Hid (∀ W v, Nu W v A → Calls Try.prog 17 #[v] W (RwEnd .u64 W (dig 18446744073709551616 A))) := fun W v h1 => hNorm W v A h1
    have K2 : Hid (∀ W v u, Nu W v A → Nu W u B → Calls Try.prog 19 #[v, u] W (RwEnd .u64 W (dig 18446744073709551616 (S)))) := fun W v u h1 h2 => by
      have c := hAdd W v u _ _ h1 h2
      rw [eS] at c
      exact c
    have K3 : Hid (∀ W v u, Nu W v A → Nu W u B → Calls Try.prog 23 #[v, u] W fun e w => e = .returned (.int .i64 (cc)) ∧ Bl W w) := fun W v u h1 h2 => by
      have c := hCmp W v u _ _ h1 h2
      rw [ecc] at c
      exact c
    have K4 : Hid (∀ W v, Nu W v A → Calls Try.prog 25 #[v] W fun e w => e = .returned (.int .i64 ((blen A : Nat) : Int)) ∧ Bl W w) := fun W v h1 => hLen W v _ h1
    rw [eu] at K4
    have K5 : Hid (∀ W v, Nu W v A → Calls Try.prog 21 #[v, .int .u64 (y : Int)] W (RwEnd .u64 W (dig 18446744073709551616 T))) := fun W v h1 => by
      have c := hScale W v A y h1 hy
      rw [eT] at c
      exact c
    have HS : Hid (∀ W v u, Nu W v A → Nu W u B → Calls Try.prog 14 #[v, u] W (if A < B then RwErr .u64 W [] 3 else RwErr .u64 W (dig 18446744073709551616 (A - B)) 0)) := fun W v u h1 h2 => hSub W v u A B h1 h2
    by_cases hlt : A < B
    · skip
      have K6 := HS
      simp only [if_pos hlt] at K6 XL
      clear ha hb ra rb eA eB hf hlt HS eT eS ecc eu hy
      go_enter Try.func3, Try.ntmps3
      go_wp2_with (first
        | (go_at_call 11; (with_reducible refine (shown4_any hAdd hShr _).mono ?_); rintro e w1 ⟨rfl, hb'⟩; have G1 := Lib.hid hb'; clear hb')
        | (go_at_call 12; (with_reducible refine (FE.out _ (Qa.out.bl G1.out) (Qb.out.bl G1.out)).mono ?_); rintro e w' ⟨rfl, rfl⟩)
        | (go_at_call 13; (with_reducible refine (XA.out _ (Qa.out.bl G1.out)).mono ?_); rintro e w2 ⟨v1, rfl, hr, hb'⟩; have D1 := Lib.hid (hr); have G2 := Lib.hid hb'; clear hr hb')
        | (go_at_call 13; (with_reducible refine (XB.out _ (Qb.out.bl (G1.out.trans G2.out))).mono ?_); rintro e w3 ⟨v2, rfl, hr, hb'⟩; have D2 := Lib.hid (hr); have G3 := Lib.hid hb'; clear hr hb')
        | (go_at_call 14; (with_reducible refine (K6.out _ _ _ (Na.out.bl (G1.out.trans (G2.out.trans G3.out))) (Nb.out.bl (G1.out.trans (G2.out.trans G3.out)))).mono ?_); rintro e w4 ⟨v3, rfl, hr, hb'⟩; have R3 := Lib.hid (hr); have G4 := Lib.hid hb'; clear hr hb')
        | (go_at_call 15; (with_reducible refine (XL.out _ (Qa.out.bl (G1.out.trans (G2.out.trans (G3.out.trans G4.out)))) (Qb.out.bl (G1.out.trans (G2.out.trans (G3.out.trans G4.out))))).mono ?_); rintro e w5 ⟨v4, rfl, hr, hb'⟩; have R4 := Lib.hid (hr); have G5 := Lib.hid hb'; clear hr hb')
        | (go_at_call 17; (with_reducible refine (K1.out _ _ (Na.out.bl (G1.out.trans (G2.out.trans (G3.out.trans (G4.out.trans G5.out)))))).mono ?_); rintro e w6 ⟨v5, rfl, hr, hb'⟩; have R5 := Lib.hid (hr); have G6 := Lib.hid hb'; clear hr hb')
        | (go_at_call 18; (with_reducible refine (kWords A dA.out _ _ (D1.out.bl (G3.out.trans (G4.out.trans (G5.out.trans G6.out))))).mono ?_); rintro e w7 ⟨v6, rfl, hr, hb'⟩; have R6 := Lib.hid (hr); have G7 := Lib.hid hb'; clear hr hb')
        | (go_at_call 16; (with_reducible refine (kSame A dA.out _ _ _ (R5.out.bl G7.out) R6.out).mono ?_); rintro e w8 ⟨rfl, hb'⟩; have G8 := Lib.hid hb'; clear hb')
        | (go_at_call 19; (with_reducible refine (K2.out _ _ _ (Na.out.bl (G1.out.trans (G2.out.trans (G3.out.trans (G4.out.trans (G5.out.trans (G6.out.trans (G7.out.trans G8.out)))))))) (Nb.out.bl (G1.out.trans (G2.out.trans (G3.out.trans (G4.out.trans (G5.out.trans (G6.out.trans (G7.out.trans G8.out))))))))).mono ?_); rintro e w9 ⟨v7, rfl, hr, hb'⟩; have R7 := Lib.hid (hr); have G9 := Lib.hid hb'; clear hr hb')
        | (go_at_call 20; (with_reducible refine (XS.out _ _ _ (D1.out.bl (G3.out.trans (G4.out.trans (G5.out.trans (G6.out.trans (G7.out.trans (G8.out.trans G9.out))))))) (D2.out.bl (G4.out.trans (G5.out.trans (G6.out.trans (G7.out.trans (G8.out.trans G9.out))))))).mono ?_); rintro e w10 ⟨v8, rfl, hr, hb'⟩; have D8 := Lib.hid (hr); have G10 := Lib.hid hb'; clear hr hb')
        | (go_at_call 18; (with_reducible refine (kWords S dS.out _ _ D8.out).mono ?_); rintro e w11 ⟨v9, rfl, hr, hb'⟩; have R9 := Lib.hid (hr); have G11 := Lib.hid hb'; clear hr hb')
        | (go_at_call 16; (with_reducible refine (kSame S dS.out _ _ _ (R7.out.bl (G10.out.trans G11.out)) R9.out).mono ?_); rintro e w12 ⟨rfl, hb'⟩; have G12 := Lib.hid hb'; clear hb')
        | (go_at_call 16; (with_reducible refine (kSame0 _ _ _ (R3.out.bl (G5.out.trans (G6.out.trans (G7.out.trans (G8.out.trans (G9.out.trans (G10.out.trans (G11.out.trans G12.out)))))))) (R4.out.bl (G6.out.trans (G7.out.trans (G8.out.trans (G9.out.trans (G10.out.trans (G11.out.trans G12.out)))))))).mono ?_); rintro e w13 ⟨rfl, hb'⟩; have G13 := Lib.hid hb'; clear hb')
        | (go_at_call 21; (with_reducible refine (K5.out _ _ (Na.out.bl (G1.out.trans (G2.out.trans (G3.out.trans (G4.out.trans (G5.out.trans (G6.out.trans (G7.out.trans (G8.out.trans (G9.out.trans (G10.out.trans (G11.out.trans (G12.out.trans G13.out)))))))))))))).mono ?_); rintro e w14 ⟨v10, rfl, hr, hb'⟩; have R10 := Lib.hid (hr); have G14 := Lib.hid hb'; clear hr hb')
        | (go_at_call 13; (with_reducible refine (kDigit HY.out _ (lit_at rfl)).mono ?_); rintro e w15 ⟨v11, rfl, hr, hb'⟩; have D11 := Lib.hid (hr); have G15 := Lib.hid (((Bl.refl _).alloc _).trans hb'); clear hr hb')
        | (go_at_call 22; (with_reducible refine (XM.out _ _ _ (D1.out.bl (G3.out.trans (G4.out.trans (G5.out.trans (G6.out.trans (G7.out.trans (G8.out.trans (G9.out.trans (G10.out.trans (G11.out.trans (G12.out.trans (G13.out.trans (G14.out.trans G15.out))))))))))))) D11.out).mono ?_); rintro e w16 ⟨v12, rfl, hr, hb'⟩; have D12 := Lib.hid (hr); have G16 := Lib.hid hb'; clear hr hb')
        | (go_at_call 18; (with_reducible refine (kWords T dT.out _ _ D12.out).mono ?_); rintro e w17 ⟨v13, rfl, hr, hb'⟩; have R13 := Lib.hid (hr); have G17 := Lib.hid hb'; clear hr hb')
        | (go_at_call 16; (with_reducible refine (kSame T dT.out _ _ _ (R10.out.bl (G15.out.trans (G16.out.trans G17.out))) R13.out).mono ?_); rintro e w18 ⟨rfl, hb'⟩; have G18 := Lib.hid hb'; clear hb')
        | (go_at_call 23; (with_reducible refine (K3.out _ _ _ (Na.out.bl (G1.out.trans (G2.out.trans (G3.out.trans (G4.out.trans (G5.out.trans (G6.out.trans (G7.out.trans (G8.out.trans (G9.out.trans (G10.out.trans (G11.out.trans (G12.out.trans (G13.out.trans (G14.out.trans (G15.out.trans (G16.out.trans (G17.out.trans G18.out)))))))))))))))))) (Nb.out.bl (G1.out.trans (G2.out.trans (G3.out.trans (G4.out.trans (G5.out.trans (G6.out.trans (G7.out.trans (G8.out.trans (G9.out.trans (G10.out.trans (G11.out.trans (G12.out.trans (G13.out.trans (G14.out.trans (G15.out.trans (G16.out.trans (G17.out.trans G18.out))))))))))))))))))).mono ?_); rintro e w19 ⟨rfl, hb'⟩; have G19 := Lib.hid hb'; clear hb')
        | (go_at_call 24; (with_reducible refine (XC.out _ _ _ (D1.out.bl (G3.out.trans (G4.out.trans (G5.out.trans (G6.out.trans (G7.out.trans (G8.out.trans (G9.out.trans (G10.out.trans (G11.out.trans (G12.out.trans (G13.out.trans (G14.out.trans (G15.out.trans (G16.out.trans (G17.out.trans (G18.out.trans G19.out))))))))))))))))) (D2.out.bl (G4.out.trans (G5.out.trans (G6.out.trans (G7.out.trans (G8.out.trans (G9.out.trans (G10.out.trans (G11.out.trans (G12.out.trans (G13.out.trans (G14.out.trans (G15.out.trans (G16.out.trans (G17.out.trans (G18.out.trans G19.out))))))))))))))))).mono ?_); rintro e w20 ⟨rfl, hb'⟩; have G20 := Lib.hid hb'; clear hb')
        | (go_at_call 25; (with_reducible refine (K4.out _ _ (Na.out.bl (G1.out.trans (G2.out.trans (G3.out.trans (G4.out.trans (G5.out.trans (G6.out.trans (G7.out.trans (G8.out.trans (G9.out.trans (G10.out.trans (G11.out.trans (G12.out.trans (G13.out.trans (G14.out.trans (G15.out.trans (G16.out.trans (G17.out.trans (G18.out.trans (G19.out.trans G20.out))))))))))))))))))))).mono ?_); rintro e w21 ⟨rfl, hb'⟩; have G21 := Lib.hid hb'; clear hb')
        | (go_at_call 26; (with_reducible refine (XU.out _ _ (D1.out.bl (G3.out.trans (G4.out.trans (G5.out.trans (G6.out.trans (G7.out.trans (G8.out.trans (G9.out.trans (G10.out.trans (G11.out.trans (G12.out.trans (G13.out.trans (G14.out.trans (G15.out.trans (G16.out.trans (G17.out.trans (G18.out.trans (G19.out.trans (G20.out.trans G21.out)))))))))))))))))))).mono ?_); rintro e w' ⟨rfl, rfl⟩))
      go_ret
      exact ⟨rfl, (G1.out.trans (G2.out.trans (G3.out.trans (G4.out.trans (G5.out.trans (G6.out.trans (G7.out.trans (G8.out.trans (G9.out.trans (G10.out.trans (G11.out.trans (G12.out.trans (G13.out.trans (G14.out.trans (G15.out.trans (G16.out.trans (G17.out.trans (G18.out.trans (G19.out.trans (G20.out.trans G21.out))))))))))))))))))))⟩
    · skip
      obtain ⟨D, eD⟩ : ∃ D, A - B = D := ⟨_, rfl⟩
      have dD : Hid (Sd D) := (sa.out.le (eD ▸ Nat.sub_le _ _)).sd (by decide)
      have K6 := HS
      simp only [if_neg hlt, eD] at K6 XL
      clear ha hb ra rb eA eB hf hlt HS eT eS ecc eu hy eD
      go_enter Try.func3, Try.ntmps3
      go_wp2_with (first
        | (go_at_call 11; (with_reducible refine (shown4_any hAdd hShr _).mono ?_); rintro e w1 ⟨rfl, hb'⟩; have G1 := Lib.hid hb'; clear hb')
        | (go_at_call 12; (with_reducible refine (FE.out _ (Qa.out.bl G1.out) (Qb.out.bl G1.out)).mono ?_); rintro e w' ⟨rfl, rfl⟩)
        | (go_at_call 13; (with_reducible refine (XA.out _ (Qa.out.bl G1.out)).mono ?_); rintro e w2 ⟨v1, rfl, hr, hb'⟩; have D1 := Lib.hid (hr); have G2 := Lib.hid hb'; clear hr hb')
        | (go_at_call 13; (with_reducible refine (XB.out _ (Qb.out.bl (G1.out.trans G2.out))).mono ?_); rintro e w3 ⟨v2, rfl, hr, hb'⟩; have D2 := Lib.hid (hr); have G3 := Lib.hid hb'; clear hr hb')
        | (go_at_call 14; (with_reducible refine (K6.out _ _ _ (Na.out.bl (G1.out.trans (G2.out.trans G3.out))) (Nb.out.bl (G1.out.trans (G2.out.trans G3.out)))).mono ?_); rintro e w4 ⟨v3, rfl, hr, hb'⟩; have R3 := Lib.hid (hr); have G4 := Lib.hid hb'; clear hr hb')
        | (go_at_call 15; (with_reducible refine (XL.out _ (Qa.out.bl (G1.out.trans (G2.out.trans (G3.out.trans G4.out)))) (Qb.out.bl (G1.out.trans (G2.out.trans (G3.out.trans G4.out))))).mono ?_); rintro e w5 ⟨v4, rfl, hr, hb'⟩; have R4 := Lib.hid (hr); have G5 := Lib.hid hb'; clear hr hb')
        | (go_at_call 17; (with_reducible refine (K1.out _ _ (Na.out.bl (G1.out.trans (G2.out.trans (G3.out.trans (G4.out.trans G5.out)))))).mono ?_); rintro e w6 ⟨v5, rfl, hr, hb'⟩; have R5 := Lib.hid (hr); have G6 := Lib.hid hb'; clear hr hb')
        | (go_at_call 18; (with_reducible refine (kWords A dA.out _ _ (D1.out.bl (G3.out.trans (G4.out.trans (G5.out.trans G6.out))))).mono ?_); rintro e w7 ⟨v6, rfl, hr, hb'⟩; have R6 := Lib.hid (hr); have G7 := Lib.hid hb'; clear hr hb')
        | (go_at_call 16; (with_reducible refine (kSame A dA.out _ _ _ (R5.out.bl G7.out) R6.out).mono ?_); rintro e w8 ⟨rfl, hb'⟩; have G8 := Lib.hid hb'; clear hb')
        | (go_at_call 19; (with_reducible refine (K2.out _ _ _ (Na.out.bl (G1.out.trans (G2.out.trans (G3.out.trans (G4.out.trans (G5.out.trans (G6.out.trans (G7.out.trans G8.out)))))))) (Nb.out.bl (G1.out.trans (G2.out.trans (G3.out.trans (G4.out.trans (G5.out.trans (G6.out.trans (G7.out.trans G8.out))))))))).mono ?_); rintro e w9 ⟨v7, rfl, hr, hb'⟩; have R7 := Lib.hid (hr); have G9 := Lib.hid hb'; clear hr hb')
        | (go_at_call 20; (with_reducible refine (XS.out _ _ _ (D1.out.bl (G3.out.trans (G4.out.trans (G5.out.trans (G6.out.trans (G7.out.trans (G8.out.trans G9.out))))))) (D2.out.bl (G4.out.trans (G5.out.trans (G6.out.trans (G7.out.trans (G8.out.trans G9.out))))))).mono ?_); rintro e w10 ⟨v8, rfl, hr, hb'⟩; have D8 := Lib.hid (hr); have G10 := Lib.hid hb'; clear hr hb')
        | (go_at_call 18; (with_reducible refine (kWords S dS.out _ _ D8.out).mono ?_); rintro e w11 ⟨v9, rfl, hr, hb'⟩; have R9 := Lib.hid (hr); have G11 := Lib.hid hb'; clear hr hb')
        | (go_at_call 16; (with_reducible refine (kSame S dS.out _ _ _ (R7.out.bl (G10.out.trans G11.out)) R9.out).mono ?_); rintro e w12 ⟨rfl, hb'⟩; have G12 := Lib.hid hb'; clear hb')
        | (go_at_call 16; (with_reducible refine (kSame D dD.out _ _ _ (R3.out.bl (G5.out.trans (G6.out.trans (G7.out.trans (G8.out.trans (G9.out.trans (G10.out.trans (G11.out.trans G12.out)))))))) (R4.out.bl (G6.out.trans (G7.out.trans (G8.out.trans (G9.out.trans (G10.out.trans (G11.out.trans G12.out)))))))).mono ?_); rintro e w13 ⟨rfl, hb'⟩; have G13 := Lib.hid hb'; clear hb')
        | (go_at_call 21; (with_reducible refine (K5.out _ _ (Na.out.bl (G1.out.trans (G2.out.trans (G3.out.trans (G4.out.trans (G5.out.trans (G6.out.trans (G7.out.trans (G8.out.trans (G9.out.trans (G10.out.trans (G11.out.trans (G12.out.trans G13.out)))))))))))))).mono ?_); rintro e w14 ⟨v10, rfl, hr, hb'⟩; have R10 := Lib.hid (hr); have G14 := Lib.hid hb'; clear hr hb')
        | (go_at_call 13; (with_reducible refine (kDigit HY.out _ (lit_at rfl)).mono ?_); rintro e w15 ⟨v11, rfl, hr, hb'⟩; have D11 := Lib.hid (hr); have G15 := Lib.hid (((Bl.refl _).alloc _).trans hb'); clear hr hb')
        | (go_at_call 22; (with_reducible refine (XM.out _ _ _ (D1.out.bl (G3.out.trans (G4.out.trans (G5.out.trans (G6.out.trans (G7.out.trans (G8.out.trans (G9.out.trans (G10.out.trans (G11.out.trans (G12.out.trans (G13.out.trans (G14.out.trans G15.out))))))))))))) D11.out).mono ?_); rintro e w16 ⟨v12, rfl, hr, hb'⟩; have D12 := Lib.hid (hr); have G16 := Lib.hid hb'; clear hr hb')
        | (go_at_call 18; (with_reducible refine (kWords T dT.out _ _ D12.out).mono ?_); rintro e w17 ⟨v13, rfl, hr, hb'⟩; have R13 := Lib.hid (hr); have G17 := Lib.hid hb'; clear hr hb')
        | (go_at_call 16; (with_reducible refine (kSame T dT.out _ _ _ (R10.out.bl (G15.out.trans (G16.out.trans G17.out))) R13.out).mono ?_); rintro e w18 ⟨rfl, hb'⟩; have G18 := Lib.hid hb'; clear hb')
        | (go_at_call 23; (with_reducible refine (K3.out _ _ _ (Na.out.bl (G1.out.trans (G2.out.trans (G3.out.trans (G4.out.trans (G5.out.trans (G6.out.trans (G7.out.trans (G8.out.trans (G9.out.trans (G10.out.trans (G11.out.trans (G12.out.trans (G13.out.trans (G14.out.trans (G15.out.trans (G16.out.trans (G17.out.trans G18.out)))))))))))))))))) (Nb.out.bl (G1.out.trans (G2.out.trans (G3.out.trans (G4.out.trans (G5.out.trans (G6.out.trans (G7.out.trans (G8.out.trans (G9.out.trans (G10.out.trans (G11.out.trans (G12.out.trans (G13.out.trans (G14.out.trans (G15.out.trans (G16.out.trans (G17.out.trans G18.out))))))))))))))))))).mono ?_); rintro e w19 ⟨rfl, hb'⟩; have G19 := Lib.hid hb'; clear hb')
        | (go_at_call 24; (with_reducible refine (XC.out _ _ _ (D1.out.bl (G3.out.trans (G4.out.trans (G5.out.trans (G6.out.trans (G7.out.trans (G8.out.trans (G9.out.trans (G10.out.trans (G11.out.trans (G12.out.trans (G13.out.trans (G14.out.trans (G15.out.trans (G16.out.trans (G17.out.trans (G18.out.trans G19.out))))))))))))))))) (D2.out.bl (G4.out.trans (G5.out.trans (G6.out.trans (G7.out.trans (G8.out.trans (G9.out.trans (G10.out.trans (G11.out.trans (G12.out.trans (G13.out.trans (G14.out.trans (G15.out.trans (G16.out.trans (G17.out.trans (G18.out.trans G19.out))))))))))))))))).mono ?_); rintro e w20 ⟨rfl, hb'⟩; have G20 := Lib.hid hb'; clear hb')
        | (go_at_call 25; (with_reducible refine (K4.out _ _ (Na.out.bl (G1.out.trans (G2.out.trans (G3.out.trans (G4.out.trans (G5.out.trans (G6.out.trans (G7.out.trans (G8.out.trans (G9.out.trans (G10.out.trans (G11.out.trans (G12.out.trans (G13.out.trans (G14.out.trans (G15.out.trans (G16.out.trans (G17.out.trans (G18.out.trans (G19.out.trans G20.out))))))))))))))))))))).mono ?_); rintro e w21 ⟨rfl, hb'⟩; have G21 := Lib.hid hb'; clear hb')
        | (go_at_call 26; (with_reducible refine (XU.out _ _ (D1.out.bl (G3.out.trans (G4.out.trans (G5.out.trans (G6.out.trans (G7.out.trans (G8.out.trans (G9.out.trans (G10.out.trans (G11.out.trans (G12.out.trans (G13.out.trans (G14.out.trans (G15.out.trans (G16.out.trans (G17.out.trans (G18.out.trans (G19.out.trans (G20.out.trans G21.out)))))))))))))))))))).mono ?_); rintro e w' ⟨rfl, rfl⟩))
      go_ret
      exact ⟨rfl, (G1.out.trans (G2.out.trans (G3.out.trans (G4.out.trans (G5.out.trans (G6.out.trans (G7.out.trans (G8.out.trans (G9.out.trans (G10.out.trans (G11.out.trans (G12.out.trans (G13.out.trans (G14.out.trans (G15.out.trans (G16.out.trans (G17.out.trans (G18.out.trans (G19.out.trans (G20.out.trans G21.out))))))))))))))))))))⟩
  · skip
    have FE := Lib.hid (fun W h1 h2 => few_no va vb la lb hf (rw_len ra) (rw_len rb) W h1 h2)
    have Qa := Lib.hid ra
    have Qb := Lib.hid rb
    clear ha hb ra rb hf hy
    go_enter Try.func3, Try.ntmps3
    go_wp2_with (first
      | (go_at_call 11; (with_reducible refine (shown4_any hAdd hShr _).mono ?_); rintro e w1 ⟨rfl, hb'⟩; have G1 := Lib.hid hb'; clear hb')
      | (go_at_call 12; (with_reducible refine (FE.out _ (Qa.out.bl G1.out) (Qb.out.bl G1.out)).mono ?_); rintro e w' ⟨rfl, rfl⟩))
    go_ret
    exact ⟨rfl, G1.out⟩
end Go.Proofs.Ytdbmfbfdiadiaaa
