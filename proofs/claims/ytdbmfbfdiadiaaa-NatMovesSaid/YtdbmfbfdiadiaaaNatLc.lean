/-
  The walks of the statements of layer 4: NatMoves.
-/
import Derived.Test.YtdbmfbfdiadiaaaNatR
namespace Go.Proofs.Ytdbmfbfdiadiaaa
open Go.RowKit
set_option linter.unusedVariables false

set_option maxRecDepth 100000 in
set_option maxHeartbeats 4000000 in
theorem natMoves_walk' (hAdd : CAdd) (hShr : CShr) (hShl : CShl) (hLow : CLow) (va : Value) (la : List Nat) (n : Int) (ha : All 18446744073709551616 la) (hn : -9223372036854775808 ≤ n ∧ n ≤ 9223372036854775807) (w : World) (ra : Rw .u64 w va la) :
    Calls Try.prog 4 #[va, .int .i64 n] w fun e w' => e = .returned (.bool true) ∧ Bl w w' := by
  by_cases hf : la.length ≤ 40 ∧ ([] : List Nat).length ≤ 40
  · have FE := Lib.hid (fun W h1 h2 => few_yes va (.slice none 0 0) la [] hf.1 hf.2 W h1 h2)
    by_cases h3 : 3000 < n
    · have Qa := Lib.hid ra
      clear ha hf ra hn
      go_enter Try.func4, Try.ntmps4
      go_wp2_with (first
        | (go_at_call 11; (with_reducible refine (shown4_any hAdd hShr _).mono ?_); rintro e w1 ⟨rfl, hb'⟩; have G1 := Lib.hid hb'; clear hb')
        | (go_at_call 12; (with_reducible refine (FE.out _ (Qa.out.bl G1.out) (Rw.nil _ _)).mono ?_); rintro e w' ⟨rfl, rfl⟩))
      go_ret
      exact ⟨rfl, G1.out⟩
    · obtain ⟨N, eN⟩ : ∃ N : Nat, n.toNat = N := ⟨_, rfl⟩
      have hN : N ≤ 3000 := by omega
      have Na : Hid (Nu w va (val 18446744073709551616 la)) := Nu.mk ra ha (by omega)
      have sa := Lib.hid (Sz.of_val ha (k := 40) (by omega))
      have Qa := Lib.hid ra
      obtain ⟨A, eA⟩ : ∃ x, val 18446744073709551616 la = x := ⟨_, rfl⟩
      rw [eA] at Na sa
      obtain ⟨P, eP⟩ : ∃ P, 2 ^ N = P := ⟨_, rfl⟩
      have hP : 0 < P := eP ▸ Nat.two_pow_pos N
      obtain ⟨H, eH⟩ : ∃ H, A / P = H := ⟨_, rfl⟩
      obtain ⟨R, eR⟩ : ∃ R, A % P = R := ⟨_, rfl⟩
      obtain ⟨T, eT⟩ : ∃ T, A * P = T := ⟨_, rfl⟩
      have sH : Hid (Sz 40 H) := sa.out.le (by rw [← eH]; exact Nat.div_le_self _ _)
      have sR : Hid (Sz 40 R) := sa.out.le (by rw [← eR]; exact Nat.mod_le _ _)
      have sT : Hid (Sz 88 T) := (by rw [← eT, ← eP]; exact (sa.out.shl (j := 47) (by omega)).mono (by omega))
      have sP : Hid (Sz 47 P) := (by rw [← eP]; exact sz_pow N hN)
      have dA : Hid (Sd A) := sa.out.sd (by decide)
      have dP : Hid (Sd P) := sP.out.sd (by decide)
      have dH : Hid (Sd H) := sH.out.sd (by decide)
      have dR : Hid (Sd R) := sR.out.sd (by decide)
      have dT : Hid (Sd T) := sT.out.sd (by decide)
      have XD := Lib.hid (fun W h => kDigits (v := va) ha hf.1 eA W h)
      have XQ : Hid (∀ W v u, De W v A → De W u P → Calls Try.prog 28 #[v, u] W (RwEnd2 .i64 W (dig 65536 H) (dig 65536 R))) := fun W v u h1 h2 => by
        have c := kDiv A P hP dA.out dP.out W v u h1 h2
        rw [eH, eR] at c
        exact c
      have XM : Hid (∀ W v u, De W v A → De W u P → Calls Try.prog 22 #[v, u] W (RwEnd .i64 W (dig 65536 T))) := fun W v u h1 h2 => by
        have c := kMul A P dA.out dP.out W v u h1 h2
        rw [eT] at c
        exact c
      have K1 : Hid (∀ W v, Nu W v A → Calls Try.prog 29 #[v, .int .i64 n] W (RwEnd .u64 W (dig 18446744073709551616 (H)))) := fun W v h1 => by
        have c := hShr W v _ n h1 (by omega) (by omega)
        rw [eN, eP, eH] at c
        exact c
      have K2 : Hid (∀ W v, Nu W v A → Calls Try.prog 30 #[v, .int .i64 n] W (RwEnd .u64 W (dig 18446744073709551616 (R)))) := fun W v h1 => by
        have c := hLow W v _ n h1 (by omega) (by omega)
        rw [eN, eP, eR] at c
        exact c
      have K3 : Hid (∀ W v, Nu W v A → Calls Try.prog 31 #[v, .int .i64 n] W (RwEnd .u64 W (dig 18446744073709551616 (T)))) := fun W v h1 => by
        have c := hShl W v _ n h1 (by omega) (by omega)
        rw [eN, eP, eT] at c
        exact c
      by_cases h0 : n < 0
      · skip
        have XP : Hid (∀ W, Calls Try.prog 27 #[.int .i64 0] W (RwEnd .i64 W (dig 65536 P))) := fun W => by
          have hz : N = 0 := by omega
          have c := kPower 0 (by omega) W
          rw [show 2 ^ 0 = P by rw [← eP, hz]] at c
          exact c
        clear ha hf ra hn hN eA eN eP hP eH eR eT
        go_enter Try.func4, Try.ntmps4
        go_wp2_with (first
          | (go_at_call 11; (with_reducible refine (shown4_any hAdd hShr _).mono ?_); rintro e w1 ⟨rfl, hb'⟩; have G1 := Lib.hid hb'; clear hb')
          | (go_at_call 12; (with_reducible refine (FE.out _ (Qa.out.bl G1.out) (Rw.nil _ _)).mono ?_); rintro e w' ⟨rfl, rfl⟩)
          | (go_at_call 13; (with_reducible refine (XD.out _ (Qa.out.bl G1.out)).mono ?_); rintro e w2 ⟨v1, rfl, hr, hb'⟩; have D1 := Lib.hid (hr); have G2 := Lib.hid hb'; clear hr hb')
          | (go_at_call 27; (with_reducible refine (XP.out _).mono ?_); rintro e w3 ⟨v2, rfl, hr, hb'⟩; have D2 := Lib.hid (hr); have G3 := Lib.hid hb'; clear hr hb')
          | (go_at_call 28; (with_reducible refine (XQ.out _ _ _ (D1.out.bl G3.out) D2.out).mono ?_); rintro e w4 ⟨v3, v4, rfl, hr, hs, hb'⟩; have D3 := Lib.hid (hr); have D4 := Lib.hid (hs); have G4 := Lib.hid hb'; clear hr hs hb')
          | (go_at_call 29; (with_reducible refine (K1.out _ _ (Na.out.bl (G1.out.trans (G2.out.trans (G3.out.trans G4.out))))).mono ?_); rintro e w5 ⟨v5, rfl, hr, hb'⟩; have R5 := Lib.hid (hr); have G5 := Lib.hid hb'; clear hr hb')
          | (go_at_call 18; (with_reducible refine (kWords H dH.out _ _ (D3.out.bl G5.out)).mono ?_); rintro e w6 ⟨v6, rfl, hr, hb'⟩; have R6 := Lib.hid (hr); have G6 := Lib.hid hb'; clear hr hb')
          | (go_at_call 16; (with_reducible refine (kSame H dH.out _ _ _ (R5.out.bl G6.out) R6.out).mono ?_); rintro e w7 ⟨rfl, hb'⟩; have G7 := Lib.hid hb'; clear hb')
          | (go_at_call 30; (with_reducible refine (K2.out _ _ (Na.out.bl (G1.out.trans (G2.out.trans (G3.out.trans (G4.out.trans (G5.out.trans (G6.out.trans G7.out)))))))).mono ?_); rintro e w8 ⟨v7, rfl, hr, hb'⟩; have R7 := Lib.hid (hr); have G8 := Lib.hid hb'; clear hr hb')
          | (go_at_call 18; (with_reducible refine (kWords R dR.out _ _ (D4.out.bl (G5.out.trans (G6.out.trans (G7.out.trans G8.out))))).mono ?_); rintro e w9 ⟨v8, rfl, hr, hb'⟩; have R8 := Lib.hid (hr); have G9 := Lib.hid hb'; clear hr hb')
          | (go_at_call 16; (with_reducible refine (kSame R dR.out _ _ _ (R7.out.bl G9.out) R8.out).mono ?_); rintro e w10 ⟨rfl, hb'⟩; have G10 := Lib.hid hb'; clear hb')
          | (go_at_call 31; (with_reducible refine (K3.out _ _ (Na.out.bl (G1.out.trans (G2.out.trans (G3.out.trans (G4.out.trans (G5.out.trans (G6.out.trans (G7.out.trans (G8.out.trans (G9.out.trans G10.out))))))))))).mono ?_); rintro e w11 ⟨v9, rfl, hr, hb'⟩; have R9 := Lib.hid (hr); have G11 := Lib.hid hb'; clear hr hb')
          | (go_at_call 22; (with_reducible refine (XM.out _ _ _ (D1.out.bl (G3.out.trans (G4.out.trans (G5.out.trans (G6.out.trans (G7.out.trans (G8.out.trans (G9.out.trans (G10.out.trans G11.out))))))))) (D2.out.bl (G4.out.trans (G5.out.trans (G6.out.trans (G7.out.trans (G8.out.trans (G9.out.trans (G10.out.trans G11.out))))))))).mono ?_); rintro e w12 ⟨v10, rfl, hr, hb'⟩; have D10 := Lib.hid (hr); have G12 := Lib.hid hb'; clear hr hb')
          | (go_at_call 18; (with_reducible refine (kWords T dT.out _ _ D10.out).mono ?_); rintro e w13 ⟨v11, rfl, hr, hb'⟩; have R11 := Lib.hid (hr); have G13 := Lib.hid hb'; clear hr hb')
          | (go_at_call 16; (with_reducible refine (kSame T dT.out _ _ _ (R9.out.bl (G12.out.trans G13.out)) R11.out).mono ?_); rintro e w14 ⟨rfl, hb'⟩; have G14 := Lib.hid hb'; clear hb'))
        go_ret
        exact ⟨rfl, (G1.out.trans (G2.out.trans (G3.out.trans (G4.out.trans (G5.out.trans (G6.out.trans (G7.out.trans (G8.out.trans (G9.out.trans (G10.out.trans (G11.out.trans (G12.out.trans (G13.out.trans G14.out)))))))))))))⟩
      · skip
        have XP : Hid (∀ W, Calls Try.prog 27 #[.int .i64 n] W (RwEnd .i64 W (dig 65536 P))) := fun W => by
          have c := kPower N hN W
          rw [eP, show (N : Int) = n by omega] at c
          exact c
        clear ha hf ra hn hN eA eN eP hP eH eR eT
        go_enter Try.func4, Try.ntmps4
        go_wp2_with (first
          | (go_at_call 11; (with_reducible refine (shown4_any hAdd hShr _).mono ?_); rintro e w1 ⟨rfl, hb'⟩; have G1 := Lib.hid hb'; clear hb')
          | (go_at_call 12; (with_reducible refine (FE.out _ (Qa.out.bl G1.out) (Rw.nil _ _)).mono ?_); rintro e w' ⟨rfl, rfl⟩)
          | (go_at_call 13; (with_reducible refine (XD.out _ (Qa.out.bl G1.out)).mono ?_); rintro e w2 ⟨v1, rfl, hr, hb'⟩; have D1 := Lib.hid (hr); have G2 := Lib.hid hb'; clear hr hb')
          | (go_at_call 27; (with_reducible refine (XP.out _).mono ?_); rintro e w3 ⟨v2, rfl, hr, hb'⟩; have D2 := Lib.hid (hr); have G3 := Lib.hid hb'; clear hr hb')
          | (go_at_call 28; (with_reducible refine (XQ.out _ _ _ (D1.out.bl G3.out) D2.out).mono ?_); rintro e w4 ⟨v3, v4, rfl, hr, hs, hb'⟩; have D3 := Lib.hid (hr); have D4 := Lib.hid (hs); have G4 := Lib.hid hb'; clear hr hs hb')
          | (go_at_call 29; (with_reducible refine (K1.out _ _ (Na.out.bl (G1.out.trans (G2.out.trans (G3.out.trans G4.out))))).mono ?_); rintro e w5 ⟨v5, rfl, hr, hb'⟩; have R5 := Lib.hid (hr); have G5 := Lib.hid hb'; clear hr hb')
          | (go_at_call 18; (with_reducible refine (kWords H dH.out _ _ (D3.out.bl G5.out)).mono ?_); rintro e w6 ⟨v6, rfl, hr, hb'⟩; have R6 := Lib.hid (hr); have G6 := Lib.hid hb'; clear hr hb')
          | (go_at_call 16; (with_reducible refine (kSame H dH.out _ _ _ (R5.out.bl G6.out) R6.out).mono ?_); rintro e w7 ⟨rfl, hb'⟩; have G7 := Lib.hid hb'; clear hb')
          | (go_at_call 30; (with_reducible refine (K2.out _ _ (Na.out.bl (G1.out.trans (G2.out.trans (G3.out.trans (G4.out.trans (G5.out.trans (G6.out.trans G7.out)))))))).mono ?_); rintro e w8 ⟨v7, rfl, hr, hb'⟩; have R7 := Lib.hid (hr); have G8 := Lib.hid hb'; clear hr hb')
          | (go_at_call 18; (with_reducible refine (kWords R dR.out _ _ (D4.out.bl (G5.out.trans (G6.out.trans (G7.out.trans G8.out))))).mono ?_); rintro e w9 ⟨v8, rfl, hr, hb'⟩; have R8 := Lib.hid (hr); have G9 := Lib.hid hb'; clear hr hb')
          | (go_at_call 16; (with_reducible refine (kSame R dR.out _ _ _ (R7.out.bl G9.out) R8.out).mono ?_); rintro e w10 ⟨rfl, hb'⟩; have G10 := Lib.hid hb'; clear hb')
          | (go_at_call 31; (with_reducible refine (K3.out _ _ (Na.out.bl (G1.out.trans (G2.out.trans (G3.out.trans (G4.out.trans (G5.out.trans (G6.out.trans (G7.out.trans (G8.out.trans (G9.out.trans G10.out))))))))))).mono ?_); rintro e w11 ⟨v9, rfl, hr, hb'⟩; have R9 := Lib.hid (hr); have G11 := Lib.hid hb'; clear hr hb')
          | (go_at_call 22; (with_reducible refine (XM.out _ _ _ (D1.out.bl (G3.out.trans (G4.out.trans (G5.out.trans (G6.out.trans (G7.out.trans (G8.out.trans (G9.out.trans (G10.out.trans G11.out))))))))) (D2.out.bl (G4.out.trans (G5.out.trans (G6.out.trans (G7.out.trans (G8.out.trans (G9.out.trans (G10.out.trans G11.out))))))))).mono ?_); rintro e w12 ⟨v10, rfl, hr, hb'⟩; have D10 := Lib.hid (hr); have G12 := Lib.hid hb'; clear hr hb')
          | (go_at_call 18; (with_reducible refine (kWords T dT.out _ _ D10.out).mono ?_); rintro e w13 ⟨v11, rfl, hr, hb'⟩; have R11 := Lib.hid (hr); have G13 := Lib.hid hb'; clear hr hb')
          | (go_at_call 16; (with_reducible refine (kSame T dT.out _ _ _ (R9.out.bl (G12.out.trans G13.out)) R11.out).mono ?_); rintro e w14 ⟨rfl, hb'⟩; have G14 := Lib.hid hb'; clear hb'))
        go_ret
        exact ⟨rfl, (G1.out.trans (G2.out.trans (G3.out.trans (G4.out.trans (G5.out.trans (G6.out.trans (G7.out.trans (G8.out.trans (G9.out.trans (G10.out.trans (G11.out.trans (G12.out.trans (G13.out.trans G14.out)))))))))))))⟩
  · skip
    have FE := Lib.hid (fun W h1 h2 => few_no va (.slice none 0 0) la [] hf (rw_len ra) (by simp) W h1 h2)
    have Qa := Lib.hid ra
    clear ha hf ra hn
    go_enter Try.func4, Try.ntmps4
    go_wp2_with (first
      | (go_at_call 11; (with_reducible refine (shown4_any hAdd hShr _).mono ?_); rintro e w1 ⟨rfl, hb'⟩; have G1 := Lib.hid hb'; clear hb')
      | (go_at_call 12; (with_reducible refine (FE.out _ (Qa.out.bl G1.out) (Rw.nil _ _)).mono ?_); rintro e w' ⟨rfl, rfl⟩))
    go_ret
    exact ⟨rfl, G1.out⟩
end Go.Proofs.Ytdbmfbfdiadiaaa
