/-
  Package prod: Mac, over numbers.
-/
import Derived.Test.YteoeaogfeblokaaNatPo
namespace Go.Proofs.Yteoeaogfeblokaa
open Go.RowKit
set_option linter.unusedVariables false
set_option linter.unusedSimpArgs false

def CMac : Prop := ∀ (W : World) (va v : Value) (C X y j : Nat) (t : Int), Nu W va C → Nu W v X → y < 18446744073709551616 → Sz j X → j ≤ 400000 → t ≤ 400000 → -9223372036854775808 ≤ t →
  Calls Try.prog 17 #[va, v, .int .u64 (y : Int), .int .i64 t] W (RwEnd .u64 W (dig 18446744073709551616 (C + X * y * 18446744073709551616 ^ t.toNat)))

set_option maxRecDepth 100000 in
set_option maxHeartbeats 1000000 in
theorem pMac : CMac := by
  intro W va v C X y j t hc hv hy hs hj ht1 ht2
  obtain ⟨a, ea⟩ : ∃ a, t.toNat = a := ⟨_, rfl⟩
  have e1 : min (max t 0) 268435456 = (a : Int) := by omega
  have e2 : (64 : Int) * (a : Int) = ((64 * a : Nat) : Int) := by omega
  have KX := Lib.hid (pScale W v X y hv hy)
  have s1 := hs.word hy
  have KS := Lib.hid (fun W' v' (h : Nu W' v' (X * y)) => pShl W' v' _ ((64 * a : Nat) : Int) h (by omega) (by omega))
  have e3 : 2 ^ (64 * a) = 18446744073709551616 ^ a := by rw [Nat.pow_mul]
  rw [Int.toNat_natCast, e3] at KS
  have s2 : Sz (j + 1 + a) (X * y * 18446744073709551616 ^ a) := by rw [← e3]; exact s1.shl (Nat.le_refl _)
  have KA := Lib.hid (fun W' v' u' (h : Nu W' v' C) (h' : Nu W' u' (X * y * 18446744073709551616 ^ a)) => pAdd W' v' u' _ _ h h')
  rw [ea]
  obtain ⟨k, ek⟩ : ∃ k, 64 * a = k := ⟨_, rfl⟩
  rw [ek] at e2 KS
  have hk : (k : Int) ≤ 33554432 := by omega
  have S1 := Lib.hid s1
  have S2 := Lib.hid s2
  have HC := Lib.hid hc
  have J1 : Hid (j + 1 < 1048576) := by show j + 1 < _; omega
  have J2 : Hid (j + 1 + a < 1048576) := by show j + 1 + a < _; omega
  clear ea e3 s1 s2 hc hv hy hs hj ht1 ht2 ek
  obtain ⟨Z, eZ⟩ : ∃ Z, X * y * 18446744073709551616 ^ a = Z := ⟨_, rfl⟩
  obtain ⟨Y, eY⟩ : ∃ Y, X * y = Y := ⟨_, rfl⟩
  rw [eZ] at KS S2 KA ⊢
  rw [eY] at KX KS S1
  clear eZ eY
  go_enter Try.func17, Try.ntmps17
  go_wp2_with (first
    | (go_at_call 37; (with_reducible refine KX.out.mono ?_); rintro e w1 ⟨v1, rfl, hr, hb'⟩; have N1 := Lib.hid (Nu.dig hr S1.out J1.out); have G1 := Lib.hid hb'; clear hr hb')
    | (go_at_call 36; (with_reducible refine (KS.out _ _ N1.out).mono ?_); rintro e w2 ⟨v2, rfl, hr, hb'⟩; have N2 := Lib.hid (Nu.dig hr S2.out J2.out); have G2 := Lib.hid (G1.out.trans hb'); clear hr hb')
    | (go_at_call 35; (with_reducible refine (KA.out _ _ _ (HC.out.bl G2.out) N2.out).mono ?_); rintro e w3 ⟨v3, rfl, hr, hb'⟩; have H3 := Lib.hid hr; have G3 := Lib.hid (G2.out.trans hb'); clear hr hb'))
  go_ret
  exact RwEnd.mk H3.out G3.out
end Go.Proofs.Yteoeaogfeblokaa
