/-
  The walk of ProdAdds.
-/
import Derived.Test.YteoeaogfeblokaaProdS
import Derived.Test.YteoeaogfeblokaaProdA
import Derived.Test.YteoeaogfeblokaaProdD
import Derived.Test.YteoeaogfeblokaaProdM
namespace Go.Proofs.Yteoeaogfeblokaa
open Go.RowKit
set_option linter.unusedVariables false
set_option linter.unusedSimpArgs false

set_option maxRecDepth 100000 in
set_option maxHeartbeats 8000000 in
theorem prodAdds_walk (vc : Value) (lc : List Nat) (va : Value) (la : List Nat) (y : Nat) (t n : Int) (hc : All 18446744073709551616 lc) (ha : All 18446744073709551616 la) (hy : y < 18446744073709551616) (ht : -9223372036854775808 ≤ t ∧ t ≤ 9223372036854775807) (hn : -9223372036854775808 ≤ n ∧ n ≤ 9223372036854775807) (w : World) (rc : Rw .u64 w vc lc) (ra : Rw .u64 w va la) :
    Calls Try.prog 4 #[.agg #[vc, va, .int .u64 (y : Int), .int .i64 t, .int .i64 n]] w fun e w' => e = .returned (.bool true) ∧ Bl w w' := by
  by_cases hf : lc.length ≤ 40 ∧ la.length ≤ 40
  · by_cases h1 : 40 < t
    · skip
      have FE := Lib.hid (fun W h1 h2 => few5_yes vc va lc la hf.1 hf.2 W h1 h2)
      have Qc := Lib.hid rc
      have Qa := Lib.hid ra
      clear ha hc ra rc hf ht hn hy
      go_enter Try.func4, Try.ntmps4
      go_wp2_with (first
        | (go_at_call 10; (with_reducible refine (shown5_any _).mono ?_); rintro e w1 ⟨rfl, hb'⟩; have G1 := Lib.hid (((Bl.refl _).alloc _).trans hb'); clear hb')
        | (go_at_call 11; (with_reducible refine (FE.out _ (Qc.out.bl G1.out) (Qa.out.bl G1.out)).mono ?_); rintro e w' ⟨rfl, rfl⟩))
      go_ret
      exact ⟨rfl, G1.out⟩
    · by_cases h2 : 40 < n
      · skip
        have FE := Lib.hid (fun W h1 h2 => few5_yes vc va lc la hf.1 hf.2 W h1 h2)
        have Qc := Lib.hid rc
        have Qa := Lib.hid ra
        clear ha hc ra rc hf ht hn hy
        go_enter Try.func4, Try.ntmps4
        go_wp2_with (first
          | (go_at_call 10; (with_reducible refine (shown5_any _).mono ?_); rintro e w1 ⟨rfl, hb'⟩; have G1 := Lib.hid (((Bl.refl _).alloc _).trans hb'); clear hb')
          | (go_at_call 11; (with_reducible refine (FE.out _ (Qc.out.bl G1.out) (Qa.out.bl G1.out)).mono ?_); rintro e w' ⟨rfl, rfl⟩))
        go_ret
        exact ⟨rfl, G1.out⟩
      · skip
        have FE := Lib.hid (fun W h1 h2 => few5_yes vc va lc la hf.1 hf.2 W h1 h2)
        have Nc : Hid (Nu w vc (val 18446744073709551616 lc)) := Nu.mk rc hc (by omega)
        have sc := Lib.hid (Sz.of_val hc (k := 40) (by omega))
        have Qc := Lib.hid rc
        obtain ⟨C, eC⟩ : ∃ x, val 18446744073709551616 lc = x := ⟨_, rfl⟩
        rw [eC] at Nc sc
        have Na : Hid (Nu w va (val 18446744073709551616 la)) := Nu.mk ra ha (by omega)
        have sa := Lib.hid (Sz.of_val ha (k := 40) (by omega))
        have Qa := Lib.hid ra
        obtain ⟨A, eA⟩ : ∃ x, val 18446744073709551616 la = x := ⟨_, rfl⟩
        rw [eA] at Na sa
        obtain ⟨m, em⟩ : ∃ x, t.toNat = x := ⟨_, rfl⟩
        have hm : m ≤ 40 := by omega
        obtain ⟨M, eM⟩ : ∃ x, C + A * y * 18446744073709551616 ^ m = x := ⟨_, rfl⟩
        have sM : Hid (Sz 82 M) := (by
          rw [← eM]
          exact (sc.out.mono (by decide)).add (Sz.mono (k := 40 + 1 + m) (by unfold Sz; rw [Nat.pow_add]; exact Nat.mul_lt_mul_of_pos_right (sa.out.word hy) (Nat.pow_pos (by decide))) (by omega)))
        obtain ⟨H, eH⟩ : ∃ x, A / 18446744073709551616 ^ n.toNat = x := ⟨_, rfl⟩
        have sH : Hid (Sz 40 H) := (by rw [← eH]; exact sa.out.le (Nat.div_le_self _ _))
        obtain ⟨R, eR⟩ : ∃ x, A % 18446744073709551616 ^ n.toNat = x := ⟨_, rfl⟩
        have sR : Hid (Sz 40 R) := (by rw [← eR]; exact sa.out.le (Nat.mod_le _ _))
        have K1 : Hid (∀ W v u, Nu W v C → Nu W u A → Calls Try.prog 17 #[v, u, .int .u64 (y : Int), .int .i64 t] W (RwEnd .u64 W (dig 18446744073709551616 M))) := fun W v u h0 h1' => by
          have c := pMac W v u C A y 40 t h0 h1' hy sa.out (by decide) (by omega) ht.1
          rw [em, eM] at c
          exact c
        have K2 : Hid (∀ W v u, Nu W v C → Nu W u A → Calls Try.prog 18 #[v, u, .int .u64 (y : Int), .int .i64 t] W (RwEnd .u64 W (dig 18446744073709551616 M))) := fun W v u h0 h1' => by
          have c := rmac_any W v u C A y 40 40 t h0 h1' sa.out sc.out hy (by decide) (by decide) (by omega) ht.1
          rw [em, eM] at c
          exact c
        have K3 : Hid (∀ W v, Nu W v A → Calls Try.prog 19 #[v, .int .i64 n] W (RwEnd2 .u64 W (dig 18446744073709551616 H) (dig 18446744073709551616 R))) := fun W v h0 => by
          have c := pHalf W v A n h0 hn.2 hn.1
          rw [eH, eR] at c
          exact c
        have K4 : Hid (∀ W v, Nu W v A → Calls Try.prog 20 #[v, .int .i64 n] W (RwEnd2 .u64 W (dig 18446744073709551616 H) (dig 18446744073709551616 R))) := fun W v h0 => by
          have c := rhalf_any W v A 40 n h0 sa.out (by decide) (by omega) hn.1
          rw [eH, eR] at c
          exact c
        have E1 := Lib.hid (kSame M (sM.out.sd (by decide)))
        have E2 := Lib.hid (kSame H (sH.out.sd (by decide)))
        have E3 := Lib.hid (kSame R (sR.out.sd (by decide)))
        clear ha hc ra rc eA eC eM em eH eR hf ht hn hy hm
        go_enter Try.func4, Try.ntmps4
        go_wp2_with (first
          | (go_at_call 10; (with_reducible refine (shown5_any _).mono ?_); rintro e w1 ⟨rfl, hb'⟩; have G1 := Lib.hid (((Bl.refl _).alloc _).trans hb'); clear hb')
          | (go_at_call 11; (with_reducible refine (FE.out _ (Qc.out.bl G1.out) (Qa.out.bl G1.out)).mono ?_); rintro e w' ⟨rfl, rfl⟩)
          | (go_at_call 17; (with_reducible refine (K1.out _ _ _ (Nc.out.bl G1.out) (Na.out.bl G1.out)).mono ?_); rintro e w2 ⟨v1, rfl, hr, hb'⟩; have R1 := Lib.hid (hr); have G2 := Lib.hid hb'; clear hr hb')
          | (go_at_call 18; (with_reducible refine (K2.out _ _ _ (Nc.out.bl (G1.out.trans G2.out)) (Na.out.bl (G1.out.trans G2.out))).mono ?_); rintro e w3 ⟨v2, rfl, hr, hb'⟩; have R2 := Lib.hid (hr); have G3 := Lib.hid hb'; clear hr hb')
          | (go_at_call 13; (with_reducible refine (E1.out _ _ _ (R1.out.bl G3.out) R2.out).mono ?_); rintro e w4 ⟨rfl, hb'⟩; have G4 := Lib.hid hb'; clear hb')
          | (go_at_call 19; (with_reducible refine (K3.out _ _ (Na.out.bl (G1.out.trans (G2.out.trans (G3.out.trans G4.out))))).mono ?_); rintro e w5 ⟨v3, v4, rfl, hr, hs, hb'⟩; have R3 := Lib.hid (hr); have R4 := Lib.hid (hs); have G5 := Lib.hid hb'; clear hr hs hb')
          | (go_at_call 20; (with_reducible refine (K4.out _ _ (Na.out.bl (G1.out.trans (G2.out.trans (G3.out.trans (G4.out.trans G5.out)))))).mono ?_); rintro e w6 ⟨v5, v6, rfl, hr, hs, hb'⟩; have R5 := Lib.hid (hr); have R6 := Lib.hid (hs); have G6 := Lib.hid hb'; clear hr hs hb')
          | (go_at_call 13; (with_reducible refine (E2.out _ _ _ (R3.out.bl G6.out) R5.out).mono ?_); rintro e w7 ⟨rfl, hb'⟩; have G7 := Lib.hid hb'; clear hb')
          | (go_at_call 13; (with_reducible refine (E3.out _ _ _ (R4.out.bl (G6.out.trans G7.out)) (R6.out.bl G7.out)).mono ?_); rintro e w8 ⟨rfl, hb'⟩; have G8 := Lib.hid hb'; clear hb'))
        go_ret
        exact ⟨rfl, (G1.out.trans (G2.out.trans (G3.out.trans (G4.out.trans (G5.out.trans (G6.out.trans (G7.out.trans G8.out)))))))⟩
  · skip
    have FE := Lib.hid (fun W h1 h2 => few5_no vc va lc la hf (rw_len rc) (rw_len ra) W h1 h2)
    have Qc := Lib.hid rc
    have Qa := Lib.hid ra
    clear ha hc ra rc hf ht hn hy
    go_enter Try.func4, Try.ntmps4
    go_wp2_with (first
      | (go_at_call 10; (with_reducible refine (shown5_any _).mono ?_); rintro e w1 ⟨rfl, hb'⟩; have G1 := Lib.hid (((Bl.refl _).alloc _).trans hb'); clear hb')
      | (go_at_call 11; (with_reducible refine (FE.out _ (Qc.out.bl G1.out) (Qa.out.bl G1.out)).mono ?_); rintro e w' ⟨rfl, rfl⟩))
    go_ret
    exact ⟨rfl, G1.out⟩
end Go.Proofs.Yteoeaogfeblokaa
