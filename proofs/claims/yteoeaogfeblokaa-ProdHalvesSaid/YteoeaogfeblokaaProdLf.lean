/-
  The walk of ProdHalves.
-/
import Derived.Test.YteoeaogfeblokaaProdS
import Derived.Test.YteoeaogfeblokaaProdA
namespace Go.Proofs.Yteoeaogfeblokaa
open Go.RowKit
set_option linter.unusedVariables false
set_option linter.unusedSimpArgs false

set_option maxRecDepth 100000 in
set_option maxHeartbeats 8000000 in
theorem prodHalves_walk (va : Value) (la : List Nat) (n : Int) (ha : All 18446744073709551616 la) (hn : -9223372036854775808 ≤ n ∧ n ≤ 9223372036854775807) (w : World) (ra : Rw .u64 w va la) :
    Calls Try.prog 8 #[va, .int .i64 n] w fun e w' => e = .returned (.bool true) ∧ Bl w w' := by
  by_cases hf : la.length ≤ 40
  · by_cases h0 : n < 0
    · skip
      have FE := Lib.hid (fun W h1 h2 => few5_yes va (.slice none 0 0) la [] hf (by simp) W h1 h2)
      have Qa := Lib.hid ra
      clear ha ra hf hn
      go_enter Try.func8, Try.ntmps8
      go_wp2_with (first
        | (go_at_call 10; (with_reducible refine (shown5_any _).mono ?_); rintro e w1 ⟨rfl, hb'⟩; have G1 := Lib.hid hb'; clear hb')
        | (go_at_call 11; (with_reducible refine (FE.out _ (Qa.out.bl G1.out) (Rw.nil _ _)).mono ?_); rintro e w' ⟨rfl, rfl⟩))
      go_ret
      exact ⟨rfl, G1.out⟩
    · by_cases h6 : 60 < n
      · skip
        have FE := Lib.hid (fun W h1 h2 => few5_yes va (.slice none 0 0) la [] hf (by simp) W h1 h2)
        have Qa := Lib.hid ra
        clear ha ra hf hn
        go_enter Try.func8, Try.ntmps8
        go_wp2_with (first
          | (go_at_call 10; (with_reducible refine (shown5_any _).mono ?_); rintro e w1 ⟨rfl, hb'⟩; have G1 := Lib.hid hb'; clear hb')
          | (go_at_call 11; (with_reducible refine (FE.out _ (Qa.out.bl G1.out) (Rw.nil _ _)).mono ?_); rintro e w' ⟨rfl, rfl⟩))
        go_ret
        exact ⟨rfl, G1.out⟩
      · skip
        obtain ⟨m, rfl⟩ : ∃ m : Nat, n = (m : Int) := ⟨n.toNat, by omega⟩
        have hm : m ≤ 60 := by omega
        have FE := Lib.hid (fun W h1 h2 => few5_yes va (.slice none 0 0) la [] hf (by simp) W h1 h2)
        have Na : Hid (Nu w va (val 18446744073709551616 la)) := Nu.mk ra ha (by omega)
        have sa := Lib.hid (Sz.of_val ha (k := 40) (by omega))
        have Qa := Lib.hid ra
        obtain ⟨A, eA⟩ : ∃ x, val 18446744073709551616 la = x := ⟨_, rfl⟩
        rw [eA] at Na sa
        obtain ⟨Z, eZ⟩ : ∃ x, 18446744073709551616 ^ m = x := ⟨_, rfl⟩
        have sZ : Hid (Sz 61 Z) := (by rw [← eZ]; exact (sz_pw m).mono (by omega))
        obtain ⟨H, eH⟩ : ∃ x, A / Z = x := ⟨_, rfl⟩
        have sH : Hid (Sz 40 H) := (by rw [← eH]; exact sa.out.le (Nat.div_le_self _ _))
        obtain ⟨R, eR⟩ : ∃ x, A % Z = x := ⟨_, rfl⟩
        have sR : Hid (Sz 40 R) := (by rw [← eR]; exact sa.out.le (Nat.mod_le _ _))
        obtain ⟨X, eX⟩ : ∃ x, H * Z = x := ⟨_, rfl⟩
        have sX : Hid (Sz 101 X) := (by rw [← eX]; exact szmul sH.out sZ.out)
        have eA2 : X + R = A := by rw [← eX, ← eR, ← eH, Nat.mul_comm]; exact Nat.div_add_mod _ _
        have sA := sa
        have hRl : (dig 18446744073709551616 R).length ≤ m := dig_len_of_lt _ (by decide) _ _ (by rw [eZ, ← eR]; exact Nat.mod_lt _ (by rw [← eZ]; exact Nat.pow_pos (by decide)))
        obtain ⟨q, eq⟩ : ∃ x, 64 * m = x := ⟨_, rfl⟩
        have hq : (q : Int) ≤ 3840 := by omega
        have r1 : (64 : Int) * (m : Int) = (q : Int) := by omega
        have K1 : Hid (∀ W v, Nu W v A → Calls Try.prog 19 #[v, .int .i64 (m : Int)] W (RwEnd2 .u64 W (dig 18446744073709551616 H) (dig 18446744073709551616 R))) := fun W v h0' => by
          have c := pHalf W v A (m : Int) h0' hn.2 hn.1
          rw [Int.toNat_natCast, eZ, eH, eR] at c
          exact c
        have D1 : Hid (∀ W v, Nu W v H → Calls Try.prog 23 #[v] W (RwEnd .i64 W (dig 65536 H))) := fun W v h0' => by
          have c := kDg h0'
          exact c
        have KP : Hid (∀ W, Calls Try.prog 28 #[.int .i64 (q : Int)] W (RwEnd .i64 W (dig 65536 Z))) := fun W => by
          have c := kPow m (by omega) W
          rw [eq, eZ] at c
          exact c
        have KT : Hid (∀ W v, De W v Z → Calls Try.prog 27 #[v] W (RwEnd .i64 W (dig 65536 Z))) := fun W v h1 => by
          have c := rtrim_any v (dig 65536 Z) (all_dig _ (by decide) Z) (by have := (sZ.out.sd (by decide)).len; omega) W h1
          rw [val_dig _ (by decide)] at c
          exact c
        have KM := Lib.hid (kMul H Z (sH.out.sd (by decide)) (sZ.out.sd (by decide)))
        rw [eX] at KM
        have D2 : Hid (∀ W v, Nu W v R → Calls Try.prog 23 #[v] W (RwEnd .i64 W (dig 65536 R))) := fun W v h0' => by
          have c := kDg h0'
          exact c
        have KA := Lib.hid (kAdd X R (sX.out.sd (by decide)) (sR.out.sd (by decide)))
        rw [eA2] at KA
        have D3 : Hid (∀ W v, Nu W v A → Calls Try.prog 23 #[v] W (RwEnd .i64 W (dig 65536 A))) := fun W v h0' => by
          have c := kDg h0'
          exact c
        have KC := Lib.hid (kCmp A A (sA.out.sd (by decide)) (sA.out.sd (by decide)))
        rw [cmpi_eq rfl] at KC
        obtain ⟨k, ek⟩ : ∃ k, (dig 18446744073709551616 R).length = k := ⟨_, rfl⟩
        rw [ek] at hRl
        have HK := Lib.hid ek
        have d1 : decide (k ≤ m) = true := decide_eq_true hRl
        have hmi : (m : Int) ≤ 60 := by omega
        have hki : (k : Int) ≤ 60 := by omega
        clear ha ra eA eZ eH eR eX eA2 hRl eq ek hf hn hm sA
        go_enter Try.func8, Try.ntmps8
        go_wp2_with (first
          | (go_at_call 10; (with_reducible refine (shown5_any _).mono ?_); rintro e w1 ⟨rfl, hb'⟩; have G1 := Lib.hid hb'; clear hb')
          | (go_at_call 11; (with_reducible refine (FE.out _ (Qa.out.bl G1.out) (Rw.nil _ _)).mono ?_); rintro e w' ⟨rfl, rfl⟩)
          | (go_at_call 19; (with_reducible refine (K1.out _ _ (Na.out.bl G1.out)).mono ?_); rintro e w2 ⟨vh, vl, rfl, hr, hs, hb'⟩; have Nh := Lib.hid (Nu.dig hr sH.out (by decide)); have Nl := Lib.hid (Nu.dig hs sR.out (by decide)); have G2 := Lib.hid hb'; clear hr hb'; obtain ⟨Al, cl, rfl, _, _, _, _⟩ := hs; rw [HK.out] at Nl ⊢)
          | (go_at_call 23; (with_reducible refine (D1.out _ _ Nh.out).mono ?_); rintro e w3 ⟨d1, rfl, hr, hb'⟩; have G_1 := Lib.hid (hr); have G3 := Lib.hid hb'; clear hr hb')
          | (go_at_call 28; (with_reducible refine (KP.out _).mono ?_); rintro e w4 ⟨d2, rfl, hr, hb'⟩; have G_2 := Lib.hid (hr); have G4 := Lib.hid hb'; clear hr hb')
          | (go_at_call 27; (with_reducible refine (KT.out _ _ G_2.out).mono ?_); rintro e w5 ⟨d3, rfl, hr, hb'⟩; have G_3 := Lib.hid (hr); have G5 := Lib.hid hb'; clear hr hb')
          | (go_at_call 26; (with_reducible refine (KM.out _ _ _ (G_1.out.bl (G4.out.trans G5.out)) G_3.out).mono ?_); rintro e w6 ⟨d4, rfl, hr, hb'⟩; have G_4 := Lib.hid (hr); have G6 := Lib.hid hb'; clear hr hb')
          | (go_at_call 23; (with_reducible refine (D2.out _ _ (Nl.out.bl (G3.out.trans (G4.out.trans (G5.out.trans G6.out))))).mono ?_); rintro e w7 ⟨d5, rfl, hr, hb'⟩; have G_5 := Lib.hid (hr); have G7 := Lib.hid hb'; clear hr hb')
          | (go_at_call 22; (with_reducible refine (KA.out _ _ _ (G_4.out.bl G7.out) G_5.out).mono ?_); rintro e w8 ⟨d6, rfl, hr, hb'⟩; have G_6 := Lib.hid (hr); have G8 := Lib.hid hb'; clear hr hb')
          | (go_at_call 23; (with_reducible refine (D3.out _ _ (Na.out.bl (G1.out.trans (G2.out.trans (G3.out.trans (G4.out.trans (G5.out.trans (G6.out.trans (G7.out.trans G8.out))))))))).mono ?_); rintro e w9 ⟨d7, rfl, hr, hb'⟩; have G_7 := Lib.hid (hr); have G9 := Lib.hid hb'; clear hr hb')
          | (go_at_call 29; (with_reducible refine (KC.out _ _ _ (G_6.out.bl G9.out) G_7.out).mono ?_); rintro e w10 ⟨rfl, hb'⟩; have G10 := Lib.hid hb'; clear hb'))
        go_ret
        exact ⟨rfl, (G1.out.trans (G2.out.trans (G3.out.trans (G4.out.trans (G5.out.trans (G6.out.trans (G7.out.trans (G8.out.trans (G9.out.trans G10.out)))))))))⟩
  · skip
    have FE := Lib.hid (fun W h1 h2 => few5_no va (.slice none 0 0) la [] (fun h => hf h.1) (rw_len ra) (by simp) W h1 h2)
    have Qa := Lib.hid ra
    clear ha ra hf hn
    go_enter Try.func8, Try.ntmps8
    go_wp2_with (first
      | (go_at_call 10; (with_reducible refine (shown5_any _).mono ?_); rintro e w1 ⟨rfl, hb'⟩; have G1 := Lib.hid hb'; clear hb')
      | (go_at_call 11; (with_reducible refine (FE.out _ (Qa.out.bl G1.out) (Rw.nil _ _)).mono ?_); rintro e w' ⟨rfl, rfl⟩))
    go_ret
    exact ⟨rfl, G1.out⟩
end Go.Proofs.Yteoeaogfeblokaa
