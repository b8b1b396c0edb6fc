/-
  The document's answers of layer 5 over numbers: Times, Half. · few and the document's example, which stand in the statements of layer 6.
-/
import Derived.Test.YtdoohlehglakfaaPk30
import Derived.Test.YtdoohlehglakfaaPk14
import Derived.Test.YtdoohlehglakfaaPk29
namespace Go.Proofs.Ytdoohlehglakfaa
open Go.RowKit
set_option linter.unusedVariables false
set_option linter.unusedSimpArgs false

theorem kDg {W : World} {v : Value} {X : Nat} (h : Nu W v X) : Calls Try.prog 7 #[v] W (RwEnd .i64 W (dig 65536 X)) := by
  obtain ⟨l, h1, ha, hl, hx⟩ := h
  subst hx
  exact rdigits_any v l ha (by omega) W h1
theorem szmul {X Y j k : Nat} (h : Sz j X) (h' : Sz k Y) : Sz (j + k) (X * Y) := by
  unfold Sz
  rw [Nat.pow_add]
  exact Nat.mul_lt_mul'' h h'
theorem sd_mul {X Y j k : Nat} (h : Sz j X) (h' : Sz k Y) (hk : j + k ≤ 200) : Sd (X * Y) := by
  refine Sz.mono (k := j + k) ?_ hk
  unfold Sz
  rw [Nat.pow_add]
  exact Nat.mul_lt_mul'' h h'

set_option maxRecDepth 100000 in
set_option maxHeartbeats 1000000 in
theorem rtimes_any (W : World) (v u : Value) (X Y j k : Nat) (hv : Nu W v X) (hu : Nu W u Y) (hx : Sz j X) (hy : Sz k Y) (hjk : j + k ≤ 200) :
    Calls Try.prog 9 #[v, u] W (RwEnd .u64 W (dig 18446744073709551616 (X * Y))) := by
  have K1 := Lib.hid (kDg hv)
  have K2 := Lib.hid (fun W' (g : Bl W W') => kDg (hu.bl g))
  have KM := Lib.hid (kMul X Y (hx.sd (by omega)) (hy.sd (by omega)))
  have KW := Lib.hid (kWords (X * Y) (sd_mul hx hy hjk))
  clear hv hu hx hy hjk
  go_enter Try.func9, Try.ntmps9
  go_wp2_with (first
    | (go_at_call 7; (with_reducible refine K1.out.mono ?_); rintro e w1 ⟨v1, rfl, hr, hb'⟩; have D1 := Lib.hid hr; have G1 := Lib.hid hb'; clear hr hb')
    | (go_at_call 7; (with_reducible refine (K2.out _ G1.out).mono ?_); rintro e w2 ⟨v2, rfl, hr, hb'⟩; have D2 := Lib.hid hr; have D1' := Lib.hid (D1.out.bl hb'); have G2 := Lib.hid (G1.out.trans hb'); clear hr hb')
    | (go_at_call 19; (with_reducible refine (KM.out _ _ _ D1'.out D2.out).mono ?_); rintro e w3 ⟨v3, rfl, hr, hb'⟩; have D3 := Lib.hid hr; have G3 := Lib.hid (G2.out.trans hb'); clear hr hb')
    | (go_at_call 18; (with_reducible refine (KW.out _ _ D3.out).mono ?_); rintro e w4 ⟨v4, rfl, hr, hb'⟩; have D4 := Lib.hid hr; have G4 := Lib.hid (G3.out.trans hb'); clear hr hb'))
  go_ret
  exact RwEnd.mk D4.out G4.out

theorem w64_two (n : Nat) : 18446744073709551616 ^ n = 2 ^ (64 * n) := by rw [Nat.pow_mul]
theorem sz_pw (n : Nat) : Sz (n + 1) (18446744073709551616 ^ n) := Nat.pow_lt_pow_right (by decide) (by omega)

end Go.Proofs.Ytdoohlehglakfaa
namespace Go.Proofs.Ytdoohlehglakfaa
open Go.RowKit
set_option linter.unusedVariables false

set_option maxRecDepth 100000 in
theorem few6_yes (v u : Value) (l m : List Nat) (hl : l.length ≤ 30) (hm : m.length ≤ 30) (w : World) (h1 : Rw .u64 w v l) (h2 : Rw .u64 w u m) :
    Calls Try.prog 5 #[v, u] w fun e w' => e = .returned (.bool true) ∧ w = w' := by
  obtain ⟨A, c, rfl, _⟩ := h1
  obtain ⟨B, d, rfl, _⟩ := h2
  obtain ⟨n, hn⟩ : ∃ n, l.length = n := ⟨_, rfl⟩
  obtain ⟨k, hk⟩ : ∃ n, m.length = n := ⟨_, rfl⟩
  rw [hn] at hl ⊢
  rw [hk] at hm ⊢
  have a1 : decide ((n : Int) ≤ 30) = true := decide_eq_true (by omega)
  have a2 : decide ((k : Int) ≤ 30) = true := decide_eq_true (by omega)
  clear hn hk hl hm
  go_enter Try.func5, Try.ntmps5
  go_wp2
  go_ret
  exact ⟨rfl, rfl⟩
set_option maxRecDepth 100000 in
theorem few6_no (v u : Value) (l m : List Nat) (h : ¬ (l.length ≤ 30 ∧ m.length ≤ 30)) (hb : l.length ≤ 9223372036854775807) (hb' : m.length ≤ 9223372036854775807) (w : World) (h1 : Rw .u64 w v l) (h2 : Rw .u64 w u m) :
    Calls Try.prog 5 #[v, u] w fun e w' => e = .returned (.bool false) ∧ w = w' := by
  obtain ⟨A, c, rfl, _⟩ := h1
  obtain ⟨B, d, rfl, _⟩ := h2
  obtain ⟨n, hn⟩ : ∃ n, l.length = n := ⟨_, rfl⟩
  obtain ⟨k, hk⟩ : ∃ n, m.length = n := ⟨_, rfl⟩
  rw [hn] at h hb ⊢
  rw [hk] at h hb' ⊢
  have hnb : (n : Int) ≤ 9223372036854775807 := by omega
  have hkb : (k : Int) ≤ 9223372036854775807 := by omega
  by_cases hn1 : n ≤ 30
  · have a1 : decide ((n : Int) ≤ 30) = true := decide_eq_true (by omega)
    have a2 : decide ((k : Int) ≤ 30) = false := decide_eq_false (by omega)
    clear hn hk h hb hb' hn1 hnb hkb
    go_enter Try.func5, Try.ntmps5
    go_wp2
    go_ret
    exact ⟨rfl, rfl⟩
  · have a1 : decide ((n : Int) ≤ 30) = false := decide_eq_false (by omega)
    clear hn hk h hb hb' hn1 hnb hkb
    go_enter Try.func5, Try.ntmps5
    go_wp2
    go_ret
    exact ⟨rfl, rfl⟩

theorem lit2 {w : World} {e : TypeId} {b : Nat} (hb : b = w.heap.size) (x y : Nat) (hx : x < 18446744073709551616) (hy : y < 18446744073709551616) : Nu (w.alloc (.cells #[.int .u64 (x : Int), .int .u64 (y : Int)] e)) (.slice (some ⟨b, 0, none⟩) 2 2) (x + 18446744073709551616 * y) := by
  subst hb
  have hk : Bk .u64 e (w.alloc (.cells #[.int .u64 (x : Int), .int .u64 (y : Int)] e)) w.heap.size [x, y] := heap_alloc_new w _
  have hn := Nu.mk (hk.rw (n := 2) rfl (by decide)) (all_cons hx (all_cons hy (all_nil _))) (by simp)
  have e1 : val 18446744073709551616 [x, y] = x + 18446744073709551616 * y := by simp [val]
  rwa [e1] at hn

set_option maxRecDepth 100000 in
set_option maxHeartbeats 1000000 in
theorem shown6_any (w : World) : Calls Try.prog 4 #[] w fun e w' => e = .returned (.bool true) ∧ Bl w w' := by
  have e1 : dig 18446744073709551616 (18446744073709551616 / 3) = [6148914691236517205] := by decide +kernel
  have e2 : dig 18446744073709551616 (18446744073709551616 % 3) = [1] := by decide +kernel
  have z1 : Sz 2 18446744073709551616 := by unfold Sz; decide +kernel
  have z2 : Sz 2 3 := by unfold Sz; decide +kernel
  have S : Hid (∀ W v u, Nu W v (0 + 18446744073709551616 * 1) → Nu W u 3 → Calls Try.prog 6 #[v, u] W (RwEnd3 W [6148914691236517205] [1] 0)) := fun W v u h1 h2 => by
    have h1' : Nu W v 18446744073709551616 := h1
    have := pDiv W v u 18446744073709551616 3 2 2 h1' h2 (by decide) z1 z2 (by decide) (by decide)
    rw [e1, e2] at this
    exact this
  have L2 : Hid (∀ (w : World) (e : TypeId), Nu (w.alloc (.cells #[.int .u64 0, .int .u64 1] e)) (.slice (some ⟨w.heap.size, 0, none⟩) 2 2) (0 + 18446744073709551616 * 1)) := fun w e => lit2 (w := w) (e := e) rfl 0 1 (by decide) (by decide)
  have Z3 : Hid ((3 : Int) = ((3 : Nat) : Int)) := rfl
  have Z4 : Hid (3 < 18446744073709551616) := by show 3 < 18446744073709551616; decide
  clear e1 e2 z1 z2
  go_enter Try.func4, Try.ntmps4
  go_wp2_with (go_at_call 6; (with_reducible refine (S.out _ _ _ ((L2.out _ _).bl ((Bl.refl _).alloc _)) (nu_lit (by simp) Z3.out Z4.out)).mono ?_); rintro e w1 ⟨v1, v2, rfl, hr, hs, hb'⟩; have G1 := Lib.hid ((((Bl.refl w).alloc _).alloc _).trans hb'); obtain ⟨a1, c1, hv1, hk1, x0⟩ := row1 hr; subst hv1; obtain ⟨a2, c2, hv2, hk2, y0⟩ := row1 hs; subst hv2; rw [Addr.add_zero'] at x0 y0; clear hr hs hb')
  go_ret
  exact ⟨rfl, G1.out⟩
end Go.Proofs.Ytdoohlehglakfaa
