/-
  The walk of ProdTimes.
-/
import Derived.Test.YteoeaogfeblokaaProdTimesK25
import Derived.Test.YteoeaogfeblokaaProdTimesK32
import Derived.Test.YteoeaogfeblokaaProdTimesK34
namespace Go.Proofs.Yteoeaogfeblokaa
open Go.RowKit
set_option linter.unusedVariables false
set_option linter.unusedSimpArgs false

set_option maxRecDepth 100000 in
set_option maxHeartbeats 8000000 in
theorem prodTimes_walk (va : Value) (la : List Nat) (vb : Value) (lb : List Nat) (t : Int) (ha : All 18446744073709551616 la) (hb : All 18446744073709551616 lb) (ht : -9223372036854775808 ≤ t ∧ t ≤ 9223372036854775807) (w : World) (ra : Rw .u64 w va la) (rb : Rw .u64 w vb lb) :
    Calls Try.prog 3 #[va, vb, .int .i64 t] w fun e w' => e = .returned (.bool true) ∧ Bl w w' := by
  by_cases hf : la.length ≤ 40 ∧ lb.length ≤ 40
  · skip
    have FE := Lib.hid (fun W h1 h2 => few5_yes va vb la lb hf.1 hf.2 W h1 h2)
    have Na : Hid (Nu w va (val 18446744073709551616 la)) := Nu.mk ra ha (by omega)
    have sa := Lib.hid (Sz.of_val ha (k := 40) (by omega))
    have Qa := Lib.hid ra
    obtain ⟨A, eA⟩ : ∃ x, val 18446744073709551616 la = x := ⟨_, rfl⟩
    rw [eA] at Na sa
    have Nb : Hid (Nu w vb (val 18446744073709551616 lb)) := Nu.mk rb hb (by omega)
    have sb := Lib.hid (Sz.of_val hb (k := 40) (by omega))
    have Qb := Lib.hid rb
    obtain ⟨B, eB⟩ : ∃ x, val 18446744073709551616 lb = x := ⟨_, rfl⟩
    rw [eB] at Nb sb
    obtain ⟨P, eP⟩ : ∃ x, A * B = x := ⟨_, rfl⟩
    have sP : Hid (Sz 80 P) := (by rw [← eP]; exact szmul sa.out sb.out)
    obtain ⟨S, eS⟩ : ∃ x, A * A = x := ⟨_, rfl⟩
    have sS : Hid (Sz 80 S) := (by rw [← eS]; exact szmul sa.out sa.out)
    have sA := sa
    have sB := sb
    have K1 : Hid (∀ W v u, Nu W v A → Nu W u B → Calls Try.prog 12 #[v, u] W (RwEnd .u64 W (dig 18446744073709551616 P))) := fun W v u h0 h1 => by
      have c := rtimes_any W v u A B 40 40 h0 h1 sA.out sB.out (by decide)
      rw [eP] at c
      exact c
    have K2 : Hid (∀ W v u, Nu W v A → Nu W u A → Calls Try.prog 12 #[v, u] W (RwEnd .u64 W (dig 18446744073709551616 S))) := fun W v u h0 h1 => by
      have c := rtimes_any W v u A A 40 40 h0 h1 sA.out sA.out (by decide)
      rw [eS] at c
      exact c
    have K3 : Hid (∀ W v u, Nu W v A → Nu W u B → Calls Try.prog 14 #[v, u] W (RwEnd .u64 W (dig 18446744073709551616 P))) := fun W v u h0 h1 => by
      have c := pSchool W v u A B 40 40 h0 h1 sA.out sB.out (by decide)
      rw [eP] at c
      exact c
    have K4 : Hid (∀ W v u, Nu W v A → Nu W u B → Calls Try.prog 15 #[v, u, .int .i64 t] W (RwEnd .u64 W (dig 18446744073709551616 P))) := fun W v u h0 h1 => by
      have c := pKara W v u A B 40 t h0 h1 sA.out sB.out (by decide) ht.2 ht.1
      rw [eP] at c
      exact c
    have K5 : Hid (∀ W v, Nu W v A → Calls Try.prog 16 #[v] W (RwEnd .u64 W (dig 18446744073709551616 S))) := fun W v h0 => by
      have c := pSquare W v A 40 h0 sA.out (by decide)
      rw [eS] at c
      exact c
    have E1 := Lib.hid (kSame P (sP.out.sd (by decide)))
    have E2 := Lib.hid (kSame S (sS.out.sd (by decide)))
    clear ha hb ra rb eA eB eP eS hf ht sA sB
    go_enter Try.func3, Try.ntmps3
    go_wp2_with (first
      | (go_at_call 10; (with_reducible refine (shown5_any _).mono ?_); rintro e w1 ⟨rfl, hb'⟩; have G1 := Lib.hid hb'; clear hb')
      | (go_at_call 11; (with_reducible refine (FE.out _ (Qa.out.bl G1.out) (Qb.out.bl G1.out)).mono ?_); rintro e w' ⟨rfl, rfl⟩)
      | (go_at_call 12; (with_reducible refine (K1.out _ _ _ (Na.out.bl G1.out) (Nb.out.bl G1.out)).mono ?_); rintro e w2 ⟨vp, rfl, hr, hb'⟩; have Rp := Lib.hid (hr); have G2 := Lib.hid hb'; clear hr hb')
      | (go_at_call 12; (with_reducible refine (K2.out _ _ _ (Na.out.bl (G1.out.trans G2.out)) (Na.out.bl (G1.out.trans G2.out))).mono ?_); rintro e w3 ⟨vs, rfl, hr, hb'⟩; have Rs := Lib.hid (hr); have G3 := Lib.hid hb'; clear hr hb')
      | (go_at_call 14; (with_reducible refine (K3.out _ _ _ (Na.out.bl (G1.out.trans (G2.out.trans G3.out))) (Nb.out.bl (G1.out.trans (G2.out.trans G3.out)))).mono ?_); rintro e w4 ⟨v1, rfl, hr, hb'⟩; have R1 := Lib.hid (hr); have G4 := Lib.hid hb'; clear hr hb')
      | (go_at_call 13; (with_reducible refine (E1.out _ _ _ R1.out (Rp.out.bl (G3.out.trans G4.out))).mono ?_); rintro e w5 ⟨rfl, hb'⟩; have G5 := Lib.hid hb'; clear hb')
      | (go_at_call 15; (with_reducible refine (K4.out _ _ _ (Na.out.bl (G1.out.trans (G2.out.trans (G3.out.trans (G4.out.trans G5.out))))) (Nb.out.bl (G1.out.trans (G2.out.trans (G3.out.trans (G4.out.trans G5.out)))))).mono ?_); rintro e w6 ⟨v2, rfl, hr, hb'⟩; have R2 := Lib.hid (hr); have G6 := Lib.hid hb'; clear hr hb')
      | (go_at_call 13; (with_reducible refine (E1.out _ _ _ R2.out (Rp.out.bl (G3.out.trans (G4.out.trans (G5.out.trans G6.out))))).mono ?_); rintro e w7 ⟨rfl, hb'⟩; have G7 := Lib.hid hb'; clear hb')
      | (go_at_call 16; (with_reducible refine (K5.out _ _ (Na.out.bl (G1.out.trans (G2.out.trans (G3.out.trans (G4.out.trans (G5.out.trans (G6.out.trans G7.out)))))))).mono ?_); rintro e w8 ⟨v3, rfl, hr, hb'⟩; have R3 := Lib.hid (hr); have G8 := Lib.hid hb'; clear hr hb')
      | (go_at_call 13; (with_reducible refine (E2.out _ _ _ R3.out (Rs.out.bl (G4.out.trans (G5.out.trans (G6.out.trans (G7.out.trans G8.out)))))).mono ?_); rintro e w9 ⟨rfl, hb'⟩; have G9 := Lib.hid hb'; clear hb'))
    go_ret
    exact ⟨rfl, (G1.out.trans (G2.out.trans (G3.out.trans (G4.out.trans (G5.out.trans (G6.out.trans (G7.out.trans (G8.out.trans G9.out))))))))⟩
  · skip
    have FE := Lib.hid (fun W h1 h2 => few5_no va vb la lb hf (rw_len ra) (rw_len rb) W h1 h2)
    have Qa := Lib.hid ra
    have Qb := Lib.hid rb
    clear ha hb ra rb hf ht
    go_enter Try.func3, Try.ntmps3
    go_wp2_with (first
      | (go_at_call 10; (with_reducible refine (shown5_any _).mono ?_); rintro e w1 ⟨rfl, hb'⟩; have G1 := Lib.hid hb'; clear hb')
      | (go_at_call 11; (with_reducible refine (FE.out _ (Qa.out.bl G1.out) (Qb.out.bl G1.out)).mono ?_); rintro e w' ⟨rfl, rfl⟩))
    go_ret
    exact ⟨rfl, G1.out⟩
end Go.Proofs.Yteoeaogfeblokaa
