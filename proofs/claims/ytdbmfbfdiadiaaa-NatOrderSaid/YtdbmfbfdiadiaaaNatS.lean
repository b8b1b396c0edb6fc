/-
  The document's examples, which stand at the head of each statement of layer 4.
-/
import Derived.Test.YtdbmfbfdiadiaaaNatC
namespace Go.Proofs.Ytdbmfbfdiadiaaa
open Go.RowKit
set_option linter.unusedVariables false

theorem nu_lit {w : World} {e : TypeId} {x b : Nat} {z : Int} (hb : b = w.heap.size) (hz : z = (x : Int)) (hx : x < 18446744073709551616) : Nu (w.alloc (.cells #[.int .u64 z] e)) (.slice (some ⟨b, 0, none⟩) 1 1) x := by
  subst hz
  exact ⟨[x], lit_at hb, all_cons hx (all_nil _), by simp, val_one _ x⟩

theorem row1 {k : IntKind} {w : World} {v : Value} {x : Nat} (h : Rw k w v [x]) : ∃ ad c, v = .slice (some ad) 1 c ∧ ad.block < w.heap.size ∧ w.cell? (ad.add 0) = some (.int k (x : Int)) := by
  obtain ⟨A, c, hv, _, _, _, hs⟩ := h
  obtain ⟨ad, hA, hb, hx⟩ := hs (by simp)
  subst hA
  exact ⟨ad, c, hv, hb, hx 0 (by simp)⟩
theorem row2 {k : IntKind} {w : World} {v : Value} {x y : Nat} (h : Rw k w v [x, y]) : ∃ ad c, v = .slice (some ad) 2 c ∧ ad.block < w.heap.size ∧ w.cell? (ad.add 0) = some (.int k (x : Int)) ∧ w.cell? (ad.add 1) = some (.int k (y : Int)) := by
  obtain ⟨A, c, hv, _, _, _, hs⟩ := h
  obtain ⟨ad, hA, hb, hx⟩ := hs (by simp)
  subst hA
  exact ⟨ad, c, hv, hb, hx 0 (by simp), hx 1 (by simp)⟩
theorem keep_cell {W w : World} {a : Addr} {i : Nat} {u : Value} (h : W.cell? (a.add i) = some u) (hb : a.block < W.heap.size) (g : Bl W w) : w.cell? (a.add i) = some u := (g.cell (by rw [blk_add]; exact hb)).trans h

set_option maxRecDepth 100000 in
set_option maxHeartbeats 1000000 in
theorem shown4_any (hAdd : CAdd) (hShr : CShr) (w : World) : Calls Try.prog 11 #[] w fun e w' => e = .returned (.bool true) ∧ Bl w w' := by
  have e1 : dig 18446744073709551616 (18446744073709551615 + 1) = [0, 1] := by decide +kernel
  have e2 : dig 18446744073709551616 ((18446744073709551615 + 1) / 2 ^ (63 : Int).toNat) = [2] := by decide +kernel
  have sz : Sz 2 (18446744073709551615 + 1) := by unfold Sz; decide +kernel
  have A : Hid (∀ W v u, Nu W v 18446744073709551615 → Nu W u 1 → Calls Try.prog 19 #[v, u] W (RwEnd .u64 W (dig 18446744073709551616 (18446744073709551615 + 1)))) := fun W v u h1 h2 => hAdd W v u _ _ h1 h2
  have S : Hid (∀ W v, Rw .u64 W v (dig 18446744073709551616 (18446744073709551615 + 1)) → Calls Try.prog 29 #[v, .int .i64 63] W (RwEnd .u64 W [2])) := fun W v h => by
    have c := hShr W v _ 63 (h.bl (Bl.refl W) |> fun h => Nu.dig h sz (by decide)) (by decide) (by decide)
    rw [e2] at c
    exact c
  have E1 := Lib.hid e1
  have Z1 : Hid ((18446744073709551615 : Int) = ((18446744073709551615 : Nat) : Int)) := rfl
  have Z2 : Hid ((1 : Int) = ((1 : Nat) : Int)) := rfl
  have Z3 : Hid (18446744073709551615 < 18446744073709551616) := by show 18446744073709551615 < 18446744073709551616; decide
  have Z4 : Hid (1 < 18446744073709551616) := by show 1 < 18446744073709551616; decide
  clear e1 e2 sz hAdd hShr
  go_enter Try.func11, Try.ntmps11
  go_wp2_with (first
    | (go_at_call 19; (with_reducible refine (A.out _ _ _ ((nu_lit rfl Z1.out Z3.out).bl ((Bl.refl _).alloc _)) (nu_lit (by simp) Z2.out Z4.out)).mono ?_); rintro e w1 ⟨v1, rfl, hr, hb'⟩; have F1 := Lib.hid hr; have G1 := Lib.hid ((((Bl.refl w).alloc _).alloc _).trans hb'); rw [E1.out] at hr; obtain ⟨a1, c1, hv1, hk1, hx0, hx1⟩ := row2 hr; subst hv1; have K1 := Lib.hid hk1; have X0 := Lib.hid hx0; have X1 := Lib.hid hx1; clear hb' hr hk1 hx0 hx1)
    | (go_at_call 29; (with_reducible refine (S.out _ _ F1.out).mono ?_); rintro e w2 ⟨v2, rfl, hr, hb'⟩; obtain ⟨a2, c2, hv2, hk2, y0⟩ := row1 hr; subst hv2; have G2 := Lib.hid (G1.out.trans hb'); have x0 := keep_cell X0.out K1.out hb'; have x1 := keep_cell X1.out K1.out hb'; have x2 := x1; rw [Addr.add_zero'] at x0 y0; rw [Addr.add_succ'] at x2; clear hb' hr hk2))
  go_ret
  exact ⟨rfl, G2.out⟩
end Go.Proofs.Ytdbmfbfdiadiaaa
