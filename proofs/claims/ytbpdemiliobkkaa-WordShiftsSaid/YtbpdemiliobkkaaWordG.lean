/-
  The greatest common divisor: word.Gcd, whose steps are counted, and the document's answer for it.
-/
import Derived.Test.YtbpdemiliobkkaaWordC
import Derived.Deep.QuietTactic
import Derived.BigQuiet
namespace Go.Proofs.Ytbpdemiliobkkaa
open Go.RowKit
set_option linter.unusedVariables false

/-! ### Euclid's steps: the product halves from the second step on -/
def big : Nat := 340282366920938463463374607431768211456
/-- After k steps from (x, y) the numbers are (a, b). -/
def Eu (x y k a b : Nat) : Prop := a < 18446744073709551616 ∧ b < 18446744073709551616 ∧ Nat.gcd a b = Nat.gcd x y ∧ (k = 0 ∨ (b ≤ a ∧ a * b * 2 ^ (k - 1) < big))

theorem eu_start (x y : Nat) (hx : x < 18446744073709551616) (hy : y < 18446744073709551616) : Eu x y 0 x y := ⟨hx, hy, rfl, Or.inl rfl⟩

theorem lt_mul_lt {a b m : Nat} (ha : a < m) (hb : b < m) : a * b < m * m :=
  Nat.lt_of_le_of_lt (Nat.mul_le_mul_left a (Nat.le_of_lt hb)) (Nat.mul_lt_mul_of_pos_right ha (by omega))

theorem eu_step {x y k a b : Nat} (h : Eu x y k a b) (hb : 0 < b) : Eu x y (k + 1) b (a % b) := by
  obtain ⟨h1, h2, h3, h4⟩ := h
  have hm : a % b < b := Nat.mod_lt _ hb
  refine ⟨h2, by omega, ?_, Or.inr ⟨by omega, ?_⟩⟩
  · rw [Nat.gcd_comm b (a % b), ← Nat.gcd_rec, Nat.gcd_comm b a]; exact h3
  · rcases h4 with rfl | ⟨h5, h6⟩
    · simp only [Nat.zero_add, Nat.sub_self, Nat.pow_zero, Nat.mul_one]
      have := lt_mul_lt h2 (Nat.lt_trans hm h2)
      exact this
    · have e : k + 1 - 1 = k := by omega
      rw [e]
      by_cases hk : k = 0
      · subst hk
        simp only [Nat.pow_zero, Nat.mul_one]
        exact lt_mul_lt h2 (Nat.lt_trans hm h2)
      · have e2 : 2 ^ k = 2 * 2 ^ (k - 1) := by
          rw [← Nat.pow_succ']; congr 1; omega
        have hd : a % b * 2 ≤ a := by
          have := Nat.div_add_mod a b
          have hq : 1 ≤ a / b := Nat.div_pos h5 hb
          have : b * 1 ≤ b * (a / b) := Nat.mul_le_mul_left b hq
          omega
        have : b * (a % b) * 2 ^ k ≤ a * b * 2 ^ (k - 1) := by
          rw [e2, ← Nat.mul_assoc]
          refine Nat.mul_le_mul_right _ ?_
          rw [Nat.mul_assoc, Nat.mul_comm a b]
          exact Nat.mul_le_mul_left b hd
        exact Nat.lt_of_le_of_lt this h6

theorem eu_zero {x y k a : Nat} (h : Eu x y k a 0) : a = Nat.gcd x y := by
  have := h.2.2.1
  rw [Nat.gcd_zero_right] at this
  exact this

theorem eu_end {x y a b : Nat} (h : Eu x y 129 a b) : b = 0 := by
  obtain ⟨_, _, _, h4⟩ := h
  rcases h4 with h | ⟨h5, h6⟩
  · omega
  · have e : (2 : Nat) ^ (129 - 1) = big := by decide +kernel
    rw [e] at h6
    by_cases hb : b = 0
    · exact hb
    · have : 1 * 1 ≤ a * b := Nat.mul_le_mul (by omega) (by omega)
      have : 1 * big ≤ a * b * big := Nat.mul_le_mul_right _ (by omega)
      omega

/-! ### The world: what only reads, in an order that is left open -/
def Q (w w' : World) : Prop := ∃ n, w' = w.drewN n
theorem Q.refl (w : World) : Q w w := ⟨0, rfl⟩
theorem Q.drewN {w w' : World} (h : Q w w') (n : Nat) : Q w (w'.drewN n) := by
  obtain ⟨m, rfl⟩ := h
  exact ⟨m + n, World.drewN_drewN _ _ _⟩
theorem Q.drew {w w' : World} (h : Q w w') : Q w w'.drew := h.drewN 1
theorem Q.trans {a b c : World} (h : Q a b) (h' : Q b c) : Q a c := by
  obtain ⟨n, rfl⟩ := h'
  exact h.drewN n
theorem Q.grown {w w' : World} (h : Q w w') : Grown w w' := by
  obtain ⟨n, rfl⟩ := h
  exact Grown.refl w

set_option maxRecDepth 100000 in
set_option maxHeartbeats 400000 in
theorem gcd_any (x y : Nat) (hx : x < 18446744073709551616) (hy : y < 18446744073709551616) (w : World) :
    Calls Try.prog 22 #[.int .u64 (x : Int), .int .u64 (y : Int)] w fun e w' => e = .returned (.int .u64 ((Nat.gcd x y : Nat) : Int)) ∧ Q w w' := by
  have es := eu_start x y hx hy
  have ES := Lib.hid es
  clear es hx hy
  go_enter Try.func22, Try.ntmps22
  go_wp2
  go_step3
  go_wp2
  go_step3
  go_wp2
  go_loopw [0, 1, 5] (fun s t i wr => ∃ a b k : Nat, k ≤ 129 ∧ Eu x y k a b ∧ s = .int .u64 (a : Int) ∧ t = .int .u64 (b : Int) ∧ i = .int .i64 (k : Int) ∧ Q w wr) (fun _ _ i _ => 129 - (intOf i).toNat)
  case atStart => exact ⟨x, y, 0, by omega, ES.out, rfl, rfl, rfl, Q.refl _⟩
  case round =>
    obtain ⟨a, b, k, hk, he, rfl, rfl, rfl, hq⟩ := hrel
    have HE := Lib.hid he
    have HQ := Lib.hid hq
    clear he hq
    by_cases hlt : k < 129
    · by_cases hb : b = 0
      · subst hb
        go_wp2
        rw [Exit.noGoto_ret]
        go_ret
        exact ⟨int_eq (by have := eu_zero HE.out; omega), HQ.out⟩
      · have hb1 : 0 < b := by omega
        have hb2 : ((b : Int) == 0) = false := by rw [beq_eq_false_iff_ne]; omega
        go_wp2
        go_quiet (fail)
        go_wp2
        go_roundw
        case rel => exact ⟨b, a % b, k + 1, by omega, eu_step HE.out hb1, by go_num, by go_num, by go_num, HQ.out.drewN _⟩
        case measure => simp [intOf]; omega
    · have hk1 : k = 129 := by omega
      have hz : b = 0 := eu_end (hk1 ▸ HE.out)
      clear hk1
      subst hz
      go_wp2
      rw [Exit.noGoto_ret]
      go_ret
      exact ⟨int_eq (by have := eu_zero HE.out; omega), HQ.out⟩

/-! ### The document's answer -/
theorem gcd_modl (a b : Nat) : Nat.gcd (a % b) b = Nat.gcd a b := by rw [← Nat.gcd_rec, Nat.gcd_comm]
theorem gcd_modr (a b : Nat) : Nat.gcd a (b % a) = Nat.gcd a b := by rw [Nat.gcd_comm, ← Nat.gcd_rec]

set_option maxRecDepth 100000 in
set_option maxHeartbeats 400000 in
theorem rgcd_any (x y : Nat) (hx : x < 18446744073709551616) (hy : y < 18446744073709551616) (w : World) :
    Calls Try.prog 23 #[.int .u64 (x : Int), .int .u64 (y : Int)] w fun e w' => e = .returned (.int .u64 ((Nat.gcd x y : Nat) : Int)) ∧ Q w w' := by
  go_enter Try.func23, Try.ntmps23
  go_wp2
  go_loopw [0, 1] (fun s t wr => ∃ a b : Nat, a < 18446744073709551616 ∧ b < 18446744073709551616 ∧ Nat.gcd a b = Nat.gcd x y ∧ s = .int .u64 (a : Int) ∧ t = .int .u64 (b : Int) ∧ Q w wr) (fun s t _ => (intOf s).toNat + (intOf t).toNat)
  case atStart => exact ⟨x, y, hx, hy, rfl, rfl, rfl, Q.refl _⟩
  case round =>
    obtain ⟨a, b, ha, hb, he, rfl, rfl, hq⟩ := hrel
    have HE := Lib.hid he
    have HQ := Lib.hid hq
    clear he hq
    by_cases h0 : a = 0
    · subst h0
      go_wp2
      go_ret
      exact ⟨int_eq (by have := HE.out; rw [Nat.gcd_zero_left] at this; omega), HQ.out⟩
    · have n0 : ((a : Int) != 0) = true := by rw [bne_iff_ne]; omega
      have p0 : 0 < a := by omega
      by_cases h1 : b = 0
      · subst h1
        go_wp2
        go_ret
        exact ⟨int_eq (by have := HE.out; rw [Nat.gcd_zero_right] at this; omega), HQ.out⟩
      · have n1 : ((b : Int) != 0) = true := by rw [bne_iff_ne]; omega
        have p1 : 0 < b := by omega
        by_cases hle : b ≤ a
        · have hm := Nat.mod_lt a p1
          go_wp2
          go_roundw
          case rel => exact ⟨a % b, b, by omega, hb, by rw [gcd_modl]; exact HE.out, by go_num, rfl, HQ.out⟩
          case measure => simp [intOf]; omega
        · have hm := Nat.mod_lt b p0
          go_wp2
          go_roundw
          case rel => exact ⟨a, b % a, ha, by omega, by rw [gcd_modr]; exact HE.out, rfl, by go_num, HQ.out⟩
          case measure => simp [intOf]; omega
end Go.Proofs.Ytbpdemiliobkkaa
