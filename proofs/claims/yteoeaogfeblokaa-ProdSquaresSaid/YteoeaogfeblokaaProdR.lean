/-
  The document's answers of layer 5 over numbers: Times, Half.
-/
import Derived.Test.YteoeaogfeblokaaNatR
import Derived.Test.YteoeaogfeblokaaNatCb
namespace Go.Proofs.Yteoeaogfeblokaa
open Go.RowKit
set_option linter.unusedVariables false
set_option linter.unusedSimpArgs false

theorem kDg {W : World} {v : Value} {X : Nat} (h : Nu W v X) : Calls Try.prog 23 #[v] W (RwEnd .i64 W (dig 65536 X)) := by
  obtain ⟨l, h1, ha, hl, hx⟩ := h
  subst hx
  exact rdigits_any v l ha (by omega) W h1
theorem szmul {X Y j k : Nat} (h : Sz j X) (h' : Sz k Y) : Sz (j + k) (X * Y) := by
  unfold Sz
  rw [Nat.pow_add]
  exact Nat.mul_lt_mul'' h h'
theorem sd_mul {X Y j k : Nat} (h : Sz j X) (h' : Sz k Y) (hk : j + k ≤ 200) : Sd (X * Y) := by
  refine Sz.mono (k := j + k) ?_ hk
  unfold Sz
  rw [Nat.pow_add]
  exact Nat.mul_lt_mul'' h h'

set_option maxRecDepth 100000 in
set_option maxHeartbeats 1000000 in
theorem rtimes_any (W : World) (v u : Value) (X Y j k : Nat) (hv : Nu W v X) (hu : Nu W u Y) (hx : Sz j X) (hy : Sz k Y) (hjk : j + k ≤ 200) :
    Calls Try.prog 12 #[v, u] W (RwEnd .u64 W (dig 18446744073709551616 (X * Y))) := by
  have K1 := Lib.hid (kDg hv)
  have K2 := Lib.hid (fun W' (g : Bl W W') => kDg (hu.bl g))
  have KM := Lib.hid (kMul X Y (hx.sd (by omega)) (hy.sd (by omega)))
  have KW := Lib.hid (kWords (X * Y) (sd_mul hx hy hjk))
  clear hv hu hx hy hjk
  go_enter Try.func12, Try.ntmps12
  go_wp2_with (first
    | (go_at_call 23; (with_reducible refine K1.out.mono ?_); rintro e w1 ⟨v1, rfl, hr, hb'⟩; have D1 := Lib.hid hr; have G1 := Lib.hid hb'; clear hr hb')
    | (go_at_call 23; (with_reducible refine (K2.out _ G1.out).mono ?_); rintro e w2 ⟨v2, rfl, hr, hb'⟩; have D2 := Lib.hid hr; have D1' := Lib.hid (D1.out.bl hb'); have G2 := Lib.hid (G1.out.trans hb'); clear hr hb')
    | (go_at_call 26; (with_reducible refine (KM.out _ _ _ D1'.out D2.out).mono ?_); rintro e w3 ⟨v3, rfl, hr, hb'⟩; have D3 := Lib.hid hr; have G3 := Lib.hid (G2.out.trans hb'); clear hr hb')
    | (go_at_call 21; (with_reducible refine (KW.out _ _ D3.out).mono ?_); rintro e w4 ⟨v4, rfl, hr, hb'⟩; have D4 := Lib.hid hr; have G4 := Lib.hid (G3.out.trans hb'); clear hr hb'))
  go_ret
  exact RwEnd.mk D4.out G4.out

theorem w64_two (n : Nat) : 18446744073709551616 ^ n = 2 ^ (64 * n) := by rw [Nat.pow_mul]
theorem kPow (n : Nat) (hn : n ≤ 100) (W : World) : Calls Try.prog 28 #[.int .i64 ((64 * n : Nat) : Int)] W (RwEnd .i64 W (dig 65536 (18446744073709551616 ^ n))) := by
  rw [w64_two]
  exact rpower_any (64 * n) (by omega) W
theorem sz_pw (n : Nat) : Sz (n + 1) (18446744073709551616 ^ n) := Nat.pow_lt_pow_right (by decide) (by omega)

set_option maxRecDepth 100000 in
set_option maxHeartbeats 1000000 in
theorem rhalf_any (W : World) (v : Value) (X j : Nat) (t : Int) (hv : Nu W v X) (hx : Sz j X) (hj : j ≤ 100) (ht1 : t ≤ 40) (ht2 : -9223372036854775808 ≤ t) :
    Calls Try.prog 20 #[v, .int .i64 t] W (RwEnd2 .u64 W (dig 18446744073709551616 (X / 18446744073709551616 ^ t.toNat)) (dig 18446744073709551616 (X % 18446744073709551616 ^ t.toNat))) := by
  obtain ⟨n, en⟩ : ∃ n, t.toNat = n := ⟨_, rfl⟩
  have hn : n ≤ 40 := by omega
  rw [en]
  have K1 := Lib.hid (kDg hv)
  have KP := Lib.hid (kPow n (by omega))
  have KD := Lib.hid (kDiv X (18446744073709551616 ^ n) (Nat.pow_pos (by decide)) (hx.sd (by omega)) ((sz_pw n).sd (by omega)))
  have KQ := Lib.hid (kWords (X / 18446744073709551616 ^ n) ((hx.le (Nat.div_le_self _ _)).sd (by omega)))
  have KR := Lib.hid (kWords (X % 18446744073709551616 ^ n) ((hx.le (Nat.mod_le _ _)).sd (by omega)))
  obtain ⟨m, em⟩ : ∃ m, 64 * n = m := ⟨_, rfl⟩
  rw [em] at KP
  have r1 : (64 : Int) * (n : Int) = (m : Int) := by omega
  have hmb : (m : Int) ≤ 2560 := by omega
  obtain ⟨P, eP⟩ : ∃ P, 18446744073709551616 ^ n = P := ⟨_, rfl⟩
  rw [eP] at KP KD KQ KR ⊢
  clear hv hx hj eP em
  by_cases h0 : t < 0
  · have hn0 : n = 0 := by omega
    subst hn0
    have hm0 : m = 0 := by omega
    subst hm0
    clear en
    go_enter Try.func20, Try.ntmps20
    go_wp2_with (first
      | (go_at_call 23; (with_reducible refine K1.out.mono ?_); rintro e w1 ⟨v1, rfl, hr, hb'⟩; have D1 := Lib.hid hr; have G1 := Lib.hid hb'; clear hr hb')
      | (go_at_call 28; refine (KP.out _).mono ?_; rintro e w2 ⟨v2, rfl, hr, hb'⟩; have D2 := Lib.hid hr; have D1' := Lib.hid (D1.out.bl hb'); have G2 := Lib.hid (G1.out.trans hb'); clear hr hb')
      | (go_at_call 38; (with_reducible refine (KD.out _ _ _ D1'.out D2.out).mono ?_); rintro e w3 ⟨v3, v4, rfl, hr, hs, hb'⟩; have D3 := Lib.hid hr; have D4 := Lib.hid hs; have G3 := Lib.hid (G2.out.trans hb'); clear hr hs hb')
      | (go_at_call 21; (with_reducible refine (KQ.out _ _ D3.out).mono ?_); rintro e w4 ⟨v5, rfl, hr, hb'⟩; have D5 := Lib.hid hr; have D4' := Lib.hid (D4.out.bl hb'); have G4 := Lib.hid (G3.out.trans hb'); clear hr hb')
      | (go_at_call 21; (with_reducible refine (KR.out _ _ D4'.out).mono ?_); rintro e w5 ⟨v6, rfl, hr, hb'⟩; have D6 := Lib.hid hr; have D5' := Lib.hid (D5.out.bl hb'); have G5 := Lib.hid (G4.out.trans hb'); clear hr hb'))
    go_ret2
    exact RwEnd2.mk D5'.out D6.out G5.out
  · obtain rfl : t = (n : Int) := by omega
    clear en
    go_enter Try.func20, Try.ntmps20
    go_wp2_with (first
      | (go_at_call 23; (with_reducible refine K1.out.mono ?_); rintro e w1 ⟨v1, rfl, hr, hb'⟩; have D1 := Lib.hid hr; have G1 := Lib.hid hb'; clear hr hb')
      | (go_at_call 28; refine (KP.out _).mono ?_; rintro e w2 ⟨v2, rfl, hr, hb'⟩; have D2 := Lib.hid hr; have D1' := Lib.hid (D1.out.bl hb'); have G2 := Lib.hid (G1.out.trans hb'); clear hr hb')
      | (go_at_call 38; (with_reducible refine (KD.out _ _ _ D1'.out D2.out).mono ?_); rintro e w3 ⟨v3, v4, rfl, hr, hs, hb'⟩; have D3 := Lib.hid hr; have D4 := Lib.hid hs; have G3 := Lib.hid (G2.out.trans hb'); clear hr hs hb')
      | (go_at_call 21; (with_reducible refine (KQ.out _ _ D3.out).mono ?_); rintro e w4 ⟨v5, rfl, hr, hb'⟩; have D5 := Lib.hid hr; have D4' := Lib.hid (D4.out.bl hb'); have G4 := Lib.hid (G3.out.trans hb'); clear hr hb')
      | (go_at_call 21; (with_reducible refine (KR.out _ _ D4'.out).mono ?_); rintro e w5 ⟨v6, rfl, hr, hb'⟩; have D6 := Lib.hid hr; have D5' := Lib.hid (D5.out.bl hb'); have G5 := Lib.hid (G4.out.trans hb'); clear hr hb'))
    go_ret2
    exact RwEnd2.mk D5'.out D6.out G5.out
end Go.Proofs.Yteoeaogfeblokaa
