/-
  few, bits and the document's example, which stand in the statements of layer 5.
-/
import Derived.Test.YteoeaogfeblokaaProdC
import Derived.Test.YteoeaogfeblokaaProdR
import Derived.Test.YteoeaogfeblokaaNatSa
namespace Go.Proofs.Yteoeaogfeblokaa
open Go.RowKit
set_option linter.unusedVariables false

set_option maxRecDepth 100000 in
theorem few5_yes (v u : Value) (l m : List Nat) (hl : l.length ≤ 40) (hm : m.length ≤ 40) (w : World) (h1 : Rw .u64 w v l) (h2 : Rw .u64 w u m) :
    Calls Try.prog 11 #[v, u] w fun e w' => e = .returned (.bool true) ∧ w = w' := by
  obtain ⟨A, c, rfl, _⟩ := h1
  obtain ⟨B, d, rfl, _⟩ := h2
  obtain ⟨n, hn⟩ : ∃ n, l.length = n := ⟨_, rfl⟩
  obtain ⟨k, hk⟩ : ∃ n, m.length = n := ⟨_, rfl⟩
  rw [hn] at hl ⊢
  rw [hk] at hm ⊢
  have a1 : decide ((n : Int) ≤ 40) = true := decide_eq_true (by omega)
  have a2 : decide ((k : Int) ≤ 40) = true := decide_eq_true (by omega)
  clear hn hk hl hm
  go_enter Try.func11, Try.ntmps11
  go_wp2
  go_ret
  exact ⟨rfl, rfl⟩
set_option maxRecDepth 100000 in
theorem few5_no (v u : Value) (l m : List Nat) (h : ¬ (l.length ≤ 40 ∧ m.length ≤ 40)) (hb : l.length ≤ 9223372036854775807) (hb' : m.length ≤ 9223372036854775807) (w : World) (h1 : Rw .u64 w v l) (h2 : Rw .u64 w u m) :
    Calls Try.prog 11 #[v, u] w fun e w' => e = .returned (.bool false) ∧ w = w' := by
  obtain ⟨A, c, rfl, _⟩ := h1
  obtain ⟨B, d, rfl, _⟩ := h2
  obtain ⟨n, hn⟩ : ∃ n, l.length = n := ⟨_, rfl⟩
  obtain ⟨k, hk⟩ : ∃ n, m.length = n := ⟨_, rfl⟩
  rw [hn] at h hb ⊢
  rw [hk] at h hb' ⊢
  have hnb : (n : Int) ≤ 9223372036854775807 := by omega
  have hkb : (k : Int) ≤ 9223372036854775807 := by omega
  by_cases hn1 : n ≤ 40
  · have a1 : decide ((n : Int) ≤ 40) = true := decide_eq_true (by omega)
    have a2 : decide ((k : Int) ≤ 40) = false := decide_eq_false (by omega)
    clear hn hk h hb hb' hn1 hnb hkb
    go_enter Try.func11, Try.ntmps11
    go_wp2
    go_ret
    exact ⟨rfl, rfl⟩
  · have a1 : decide ((n : Int) ≤ 40) = false := decide_eq_false (by omega)
    clear hn hk h hb hb' hn1 hnb hkb
    go_enter Try.func11, Try.ntmps11
    go_wp2
    go_ret
    exact ⟨rfl, rfl⟩

theorem bits5_any (W : World) (v : Value) (X j : Nat) (hv : Nu W v X) (hx : Sz j X) (hj : j ≤ 200) : Calls Try.prog 24 #[v] W fun e w => e = .returned (.int .i64 ((blen X : Nat) : Int)) ∧ Bl W w := by
  have K1 := Lib.hid (kDg hv)
  have K2 := Lib.hid (kBits X (hx.sd hj))
  clear hv hx hj
  obtain ⟨b, eb⟩ : ∃ b, blen X = b := ⟨_, rfl⟩
  rw [eb] at K2 ⊢
  go_enter Try.func24, Try.ntmps24
  go_wp2_with (first
    | (go_at_call 23; (with_reducible refine K1.out.mono ?_); rintro e w1 ⟨v1, rfl, hr, hb'⟩; have D1 := Lib.hid hr; have G1 := Lib.hid hb'; clear hr hb')
    | (go_at_call 40; (with_reducible refine (K2.out _ _ D1.out).mono ?_); rintro e w2 ⟨rfl, rfl⟩))
  go_ret
  exact ⟨rfl, G1.out⟩

set_option maxRecDepth 100000 in
set_option maxHeartbeats 1000000 in
theorem shown5_any (w : World) : Calls Try.prog 10 #[] w fun e w' => e = .returned (.bool true) ∧ Bl w w' := by
  have e1 : dig 18446744073709551616 (18446744073709551615 * 18446744073709551615) = [1, 18446744073709551614] := by decide +kernel
  have z1 : Sz 1 18446744073709551615 := by unfold Sz; decide +kernel
  have S : Hid (∀ W v u, Nu W v 18446744073709551615 → Nu W u 18446744073709551615 → Calls Try.prog 14 #[v, u] W (RwEnd .u64 W (dig 18446744073709551616 (18446744073709551615 * 18446744073709551615)))) := fun W v u h1 h2 => pSchool W v u _ _ 1 1 h1 h2 z1 z1 (by decide)
  have E1 := Lib.hid e1
  have Z1 : Hid ((18446744073709551615 : Int) = ((18446744073709551615 : Nat) : Int)) := rfl
  have Z3 : Hid (18446744073709551615 < 18446744073709551616) := by show 18446744073709551615 < 18446744073709551616; decide
  clear e1 z1
  go_enter Try.func10, Try.ntmps10
  go_wp2_with (go_at_call 14; (with_reducible refine (S.out _ _ _ ((nu_lit rfl Z1.out Z3.out).bl ((Bl.refl _).alloc _)) (nu_lit (by simp) Z1.out Z3.out)).mono ?_); rintro e w1 ⟨v1, rfl, hr, hb'⟩; have G1 := Lib.hid ((((Bl.refl w).alloc _).alloc _).trans hb'); rw [E1.out] at hr; obtain ⟨a1, c1, hv1, hk1, x0, x1⟩ := row2 hr; subst hv1; have x2 := x1; rw [Addr.add_zero'] at x0; rw [Addr.add_succ'] at x2; clear hr hb')
  go_ret
  exact ⟨rfl, G1.out⟩
end Go.Proofs.Yteoeaogfeblokaa
