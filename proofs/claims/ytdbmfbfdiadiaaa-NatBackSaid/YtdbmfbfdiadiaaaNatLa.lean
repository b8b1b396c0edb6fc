/-
  The walks of the statements of layer 4: NatBack.
-/
import Derived.Test.YtdbmfbfdiadiaaaNatS
namespace Go.Proofs.Ytdbmfbfdiadiaaa
open Go.RowKit
set_option linter.unusedVariables false

set_option maxRecDepth 100000 in
set_option maxHeartbeats 2000000 in
theorem natBack_walk' (hAdd : CAdd) (hShr : CShr) (hSub : CSub) (hCmp : CCmp) (va : Value) (la : List Nat) (vb : Value) (lb : List Nat) (ha : All 18446744073709551616 la) (hb : All 18446744073709551616 lb) (w : World) (ra : Rw .u64 w va la) (rb : Rw .u64 w vb lb) :
    Calls Try.prog 6 #[va, vb] w fun e w' => e = .returned (.bool true) ∧ Bl w w' := by
  by_cases hf : la.length ≤ 40 ∧ lb.length ≤ 40
  · have FE := Lib.hid (fun W h1 h2 => few_yes va vb la lb hf.1 hf.2 W h1 h2)
    have Na : Hid (Nu w va (val 18446744073709551616 la)) := Nu.mk ra ha (by omega)
    have sa := Lib.hid (Sz.of_val ha (k := 40) (by omega))
    have Qa := Lib.hid ra
    obtain ⟨A, eA⟩ : ∃ x, val 18446744073709551616 la = x := ⟨_, rfl⟩
    rw [eA] at Na sa
    have Nb : Hid (Nu w vb (val 18446744073709551616 lb)) := Nu.mk rb hb (by omega)
    have sb := Lib.hid (Sz.of_val hb (k := 40) (by omega))
    have Qb := Lib.hid rb
    obtain ⟨B, eB⟩ : ∃ x, val 18446744073709551616 lb = x := ⟨_, rfl⟩
    rw [eB] at Nb sb
    have sS := Lib.hid (sa.out.add sb.out)
    have KA : Hid (∀ W v u, Nu W v A → Nu W u B → Calls Try.prog 19 #[v, u] W (RwEnd .u64 W (dig 18446744073709551616 (A + B)))) := fun W v u h1 h2 => by
      have c := hAdd W v u _ _ h1 h2
      exact c
    have KS : Hid (∀ W v u, Nu W v (A + B) → Nu W u B → Calls Try.prog 14 #[v, u] W (RwErr .u64 W (dig 18446744073709551616 (A)) 0)) := fun W v u h1 h2 => by
      have c := hSub W v u _ _ h1 h2
      rw [if_neg (by omega), Nat.add_sub_cancel] at c
      exact c
    have KC : Hid (∀ W v u, Nu W v A → Nu W u A → Calls Try.prog 23 #[v, u] W fun e w => e = .returned (.int .i64 (0)) ∧ Bl W w) := fun W v u h1 h2 => by
      have c := hCmp W v u _ _ h1 h2
      rw [cmpi_eq rfl] at c
      exact c
    by_cases hlt : A < B
    · skip
      have K3 : Hid (∀ W v u, Nu W v A → Nu W u B → Calls Try.prog 14 #[v, u] W (RwErr .u64 W [] 3)) := fun W v u h1 h2 => by
        have c := hSub W v u _ _ h1 h2
        rw [if_pos hlt] at c
        exact c
      have K5 : Hid (∀ W v u, Nu W v A → Nu W u B → Calls Try.prog 23 #[v, u] W fun e w => e = .returned (.int .i64 (-1)) ∧ Bl W w) := fun W v u h1 h2 => by
        have c := hCmp W v u _ _ h1 h2
        rw [cmpi_lt hlt] at c
        exact c
      clear ha hb ra rb eA eB hf hlt
      go_enter Try.func6, Try.ntmps6
      go_wp2_with (first
        | (go_at_call 11; (with_reducible refine (shown4_any hAdd hShr _).mono ?_); rintro e w1 ⟨rfl, hb'⟩; have G1 := Lib.hid hb'; clear hb')
        | (go_at_call 12; (with_reducible refine (FE.out _ (Qa.out.bl G1.out) (Qb.out.bl G1.out)).mono ?_); rintro e w' ⟨rfl, rfl⟩)
        | (go_at_call 19; (with_reducible refine (KA.out _ _ _ (Na.out.bl G1.out) (Nb.out.bl G1.out)).mono ?_); rintro e w2 ⟨vs, rfl, hr, hb'⟩; have Ns := Lib.hid (Nu.dig hr sS.out (by decide)); have G2 := Lib.hid hb'; clear hr hb')
        | (go_at_call 14; (with_reducible refine (KS.out _ _ _ Ns.out (Nb.out.bl (G1.out.trans G2.out))).mono ?_); rintro e w3 ⟨vd, rfl, hr, hb'⟩; have Nd := Lib.hid (Nu.dig hr sa.out (by decide)); have G3 := Lib.hid hb'; clear hr hb')
        | (go_at_call 14; (with_reducible refine (K3.out _ _ _ (Na.out.bl (G1.out.trans (G2.out.trans G3.out))) (Nb.out.bl (G1.out.trans (G2.out.trans G3.out)))).mono ?_); rintro e w4 ⟨vc, rfl, hr, hb'⟩; have G4 := Lib.hid hb'; clear hr hb')
        | (go_at_call 23; (with_reducible refine (KC.out _ _ _ (Nd.out.bl G4.out) (Na.out.bl (G1.out.trans (G2.out.trans (G3.out.trans G4.out))))).mono ?_); rintro e w5 ⟨rfl, hb'⟩; have G5 := Lib.hid hb'; clear hb')
        | (go_at_call 23; (with_reducible refine (K5.out _ _ _ (Na.out.bl (G1.out.trans (G2.out.trans (G3.out.trans (G4.out.trans G5.out))))) (Nb.out.bl (G1.out.trans (G2.out.trans (G3.out.trans (G4.out.trans G5.out)))))).mono ?_); rintro e w6 ⟨rfl, hb'⟩; have G6 := Lib.hid hb'; clear hb'))
      go_ret
      exact ⟨rfl, (G1.out.trans (G2.out.trans (G3.out.trans (G4.out.trans (G5.out.trans G6.out)))))⟩
    · skip
      obtain ⟨cc, ecc⟩ : ∃ cc, cmpi A B = cc := ⟨_, rfl⟩
      have hcc : (0 : Int) ≤ cc := by
        rw [← ecc]; unfold cmpi; rw [if_neg hlt]; split <;> omega
      have sD : Hid (Sz 40 (A - B)) := sa.out.le (Nat.sub_le _ _)
      have K3 : Hid (∀ W v u, Nu W v A → Nu W u B → Calls Try.prog 14 #[v, u] W (RwErr .u64 W (dig 18446744073709551616 (A - B)) 0)) := fun W v u h1 h2 => by
        have c := hSub W v u _ _ h1 h2
        rw [if_neg hlt] at c
        exact c
      have K5 : Hid (∀ W v u, Nu W v A → Nu W u B → Calls Try.prog 23 #[v, u] W fun e w => e = .returned (.int .i64 (cc)) ∧ Bl W w) := fun W v u h1 h2 => by
        have c := hCmp W v u _ _ h1 h2
        rw [ecc] at c
        exact c
      have K8 : Hid (∀ W v u, Nu W v (A - B) → Nu W u B → Calls Try.prog 19 #[v, u] W (RwEnd .u64 W (dig 18446744073709551616 (A)))) := fun W v u h1 h2 => by
        have c := hAdd W v u _ _ h1 h2
        rw [Nat.sub_add_cancel (by omega)] at c
        exact c
      clear ha hb ra rb eA eB hf ecc hlt
      go_enter Try.func6, Try.ntmps6
      go_wp2_with (first
        | (go_at_call 11; (with_reducible refine (shown4_any hAdd hShr _).mono ?_); rintro e w1 ⟨rfl, hb'⟩; have G1 := Lib.hid hb'; clear hb')
        | (go_at_call 12; (with_reducible refine (FE.out _ (Qa.out.bl G1.out) (Qb.out.bl G1.out)).mono ?_); rintro e w' ⟨rfl, rfl⟩)
        | (go_at_call 19; (with_reducible refine (KA.out _ _ _ (Na.out.bl G1.out) (Nb.out.bl G1.out)).mono ?_); rintro e w2 ⟨vs, rfl, hr, hb'⟩; have Ns := Lib.hid (Nu.dig hr sS.out (by decide)); have G2 := Lib.hid hb'; clear hr hb')
        | (go_at_call 14; (with_reducible refine (KS.out _ _ _ Ns.out (Nb.out.bl (G1.out.trans G2.out))).mono ?_); rintro e w3 ⟨vd, rfl, hr, hb'⟩; have Nd := Lib.hid (Nu.dig hr sa.out (by decide)); have G3 := Lib.hid hb'; clear hr hb')
        | (go_at_call 14; (with_reducible refine (K3.out _ _ _ (Na.out.bl (G1.out.trans (G2.out.trans G3.out))) (Nb.out.bl (G1.out.trans (G2.out.trans G3.out)))).mono ?_); rintro e w4 ⟨vc, rfl, hr, hb'⟩; have Nc := Lib.hid (Nu.dig hr sD.out (by decide)); have G4 := Lib.hid hb'; clear hr hb')
        | (go_at_call 23; (with_reducible refine (KC.out _ _ _ (Nd.out.bl G4.out) (Na.out.bl (G1.out.trans (G2.out.trans (G3.out.trans G4.out))))).mono ?_); rintro e w5 ⟨rfl, hb'⟩; have G5 := Lib.hid hb'; clear hb')
        | (go_at_call 23; (with_reducible refine (K5.out _ _ _ (Na.out.bl (G1.out.trans (G2.out.trans (G3.out.trans (G4.out.trans G5.out))))) (Nb.out.bl (G1.out.trans (G2.out.trans (G3.out.trans (G4.out.trans G5.out)))))).mono ?_); rintro e w6 ⟨rfl, hb'⟩; have G6 := Lib.hid hb'; clear hb')
        | (go_at_call 19; (with_reducible refine (K8.out _ _ _ (Nc.out.bl (G5.out.trans G6.out)) (Nb.out.bl (G1.out.trans (G2.out.trans (G3.out.trans (G4.out.trans (G5.out.trans G6.out))))))).mono ?_); rintro e w7 ⟨v8, rfl, hr, hb'⟩; have N8 := Lib.hid (Nu.dig hr sa.out (by decide)); have G7 := Lib.hid hb'; clear hr hb')
        | (go_at_call 23; (with_reducible refine (KC.out _ _ _ N8.out (Na.out.bl (G1.out.trans (G2.out.trans (G3.out.trans (G4.out.trans (G5.out.trans (G6.out.trans G7.out)))))))).mono ?_); rintro e w8 ⟨rfl, hb'⟩; have G8 := Lib.hid hb'; clear hb'))
      go_ret
      exact ⟨rfl, (G1.out.trans (G2.out.trans (G3.out.trans (G4.out.trans (G5.out.trans (G6.out.trans (G7.out.trans G8.out)))))))⟩
  · have FE := Lib.hid (fun W h1 h2 => few_no va vb la lb hf (rw_len ra) (rw_len rb) W h1 h2)
    have Qa := Lib.hid ra
    have Qb := Lib.hid rb
    clear ha hb ra rb hf
    go_enter Try.func6, Try.ntmps6
    go_wp2_with (first
      | (go_at_call 11; (with_reducible refine (shown4_any hAdd hShr _).mono ?_); rintro e w1 ⟨rfl, hb'⟩; have G1 := Lib.hid hb'; clear hb')
      | (go_at_call 12; (with_reducible refine (FE.out _ (Qa.out.bl G1.out) (Qb.out.bl G1.out)).mono ?_); rintro e w' ⟨rfl, rfl⟩))
    go_ret
    exact ⟨rfl, G1.out⟩
end Go.Proofs.Ytdbmfbfdiadiaaa
