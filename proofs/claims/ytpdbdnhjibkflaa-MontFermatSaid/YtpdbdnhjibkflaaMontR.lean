/-
  The document's answers for package mont: what each answers, in natural numbers.
-/
import Derived.Test.YtpdbdnhjibkflaaMontB
import Derived.Test.YtpdbdnhjibkflaaMontD
import Derived.BigQuiet
namespace Go.Proofs.Ytpdbdnhjibkflaa
open Go.RowKit
set_option linter.unusedVariables false

set_option maxRecDepth 100000 in
theorem rmay_yes (m : Nat) (h : May m) (w : World) : Calls Try.prog 22 #[.int .u32 (m : Int)] w fun e w' => e = .returned (.bool true) ∧ w = w' := by
  obtain ⟨h1, h2, h3⟩ := h
  have r1 : ((m : Int) % 2 == 1) = true := by rw [beq_iff_eq]; omega
  have r2 : decide ((3 : Int) ≤ (m : Int)) = true := by rw [decide_eq_true_iff]; omega
  have r3 : decide ((m : Int) < 2147483648) = true := by rw [decide_eq_true_iff]; omega
  clear h1 h2 h3
  go_enter Try.func22, Try.ntmps22
  go_wp2
  go_ret
  exact ⟨rfl, rfl⟩
set_option maxRecDepth 100000 in
theorem rmay_no (m : Nat) (h : ¬ May m) (w : World) : Calls Try.prog 22 #[.int .u32 (m : Int)] w fun e w' => e = .returned (.bool false) ∧ w = w' := by
  by_cases h1 : m % 2 = 1
  · by_cases h2 : 3 ≤ m
    · have h3 : ¬ m < 2147483648 := fun h3 => h ⟨h1, h2, h3⟩
      have r1 : ((m : Int) % 2 == 1) = true := by rw [beq_iff_eq]; omega
      have r2 : decide ((3 : Int) ≤ (m : Int)) = true := by rw [decide_eq_true_iff]; omega
      have r3 : decide ((m : Int) < 2147483648) = false := by rw [decide_eq_false_iff_not]; omega
      clear h1 h2 h3 h
      go_enter Try.func22, Try.ntmps22
      go_wp2
      go_ret
      exact ⟨rfl, rfl⟩
    · have r1 : ((m : Int) % 2 == 1) = true := by rw [beq_iff_eq]; omega
      have r2 : decide ((3 : Int) ≤ (m : Int)) = false := by rw [decide_eq_false_iff_not]; omega
      clear h1 h2 h
      go_enter Try.func22, Try.ntmps22
      go_wp2
      go_ret
      exact ⟨rfl, rfl⟩
  · have r1 : ((m : Int) % 2 == 1) = false := by rw [beq_eq_false_iff_ne]; omega
    clear h1 h
    go_enter Try.func22, Try.ntmps22
    go_wp2
    go_ret
    exact ⟨rfl, rfl⟩

/-- a times b modulo m. -/
def tn (m a b : Nat) : Nat := a * b % m
theorem turn_num (m a b : Nat) (h0 : 3 ≤ m) (hm : m < 2147483648) : ∃ x y z t : Nat,
    (a : Int).tmod (m : Int) = (x : Int) ∧ (b : Int).tmod (m : Int) = (y : Int) ∧ IntKind.u64.wrap ((x : Int) * (y : Int)) = (z : Int) ∧ (z : Int).tmod (m : Int) = (t : Int) ∧ tn m a b = t := by
  refine ⟨a % m, b % m, a % m * (b % m), tn m a b, ?_, ?_, ?_, ?_, rfl⟩
  · rw [Int.tmod_eq_emod_of_nonneg (by omega)]; rfl
  · rw [Int.tmod_eq_emod_of_nonneg (by omega)]; rfl
  · have h1 : a % m * (b % m) < 2147483648 * 2147483648 := Nat.mul_lt_mul'' (Nat.lt_trans (Nat.mod_lt _ (by omega)) hm) (Nat.lt_trans (Nat.mod_lt _ (by omega)) hm)
    rw [← Int.natCast_mul, wrapN _ (by omega)]
  · rw [Int.tmod_eq_emod_of_nonneg (by omega)]
    unfold tn
    rw [Nat.mul_mod a b m]; rfl

set_option maxRecDepth 100000 in
theorem rturn_any (m a b : Nat) (h0 : 3 ≤ m) (hm : m < 2147483648) (w : World) :
    Calls Try.prog 13 #[.int .u32 (m : Int), .int .u64 (a : Int), .int .u64 (b : Int)] w fun e w' => e = .returned (.int .u64 ((tn m a b : Nat) : Int)) ∧ Gr w w' := by
  obtain ⟨x, y, z, t, r1, r2, r3, r4, ht⟩ := turn_num m a b h0 hm
  have c := conv64 m (by omega)
  have n0 : ¬ (m : Int) = 0 := by omega
  have n1 : ((m : Int) == 0) = false := by rw [beq_eq_false_iff_ne]; omega
  rw [ht]
  clear ht h0 hm
  go_enter Try.func13, Try.ntmps13
  go_wp2
  go_quiet (fail)
  go_wp2
  go_ret
  exact ⟨rfl, (Gr.refl _).drewN _⟩

/-! ### Halved 32 times -/
def hv (m a : Nat) : Nat := if a % 2 = 1 then (a + m) / 2 else a / 2
def hvk (m a k : Nat) : Nat := a * hf m ^ k % m
theorem hv_eq (m a : Nat) (h : m % 2 = 1) (ha : a < m) : hv m a = a * hf m % m := by
  have e : Cg m (hv m a * 2) a := by
    unfold hv
    split
    · rw [show (a + m) / 2 * 2 = a + 1 * m from by omega]; exact Cg.over m a 1
    · rw [show a / 2 * 2 = a from by omega]; exact Cg.refl m a
  have hlt : hv m a < m := by unfold hv; split <;> omega
  have c := (e.mul (Cg.refl m (hf m)))
  rw [Nat.mul_assoc] at c
  have c2 := (Cg.refl m (hv m a)).mul (hf_cg m h)
  rw [Nat.mul_one] at c2
  exact Cg.eq ((c2.symm.trans c).trans (Cg.mod m _).symm) hlt (Nat.mod_lt _ (by omega))
theorem hvk_zero (m a : Nat) : hvk m a 0 = a % m := by unfold hvk; rw [Nat.pow_zero, Nat.mul_one]
theorem hvk_lt (m a k : Nat) (h : 0 < m) : hvk m a k < m := Nat.mod_lt _ h
theorem hvk_succ (m a k : Nat) (h : m % 2 = 1) : hv m (hvk m a k) = hvk m a (k + 1) := by
  rw [hv_eq m _ h (hvk_lt m a k (by omega))]
  unfold hvk
  rw [Nat.mod_mul_mod, Nat.pow_succ, Nat.mul_assoc]
theorem hvk_all (m a : Nat) : hvk m a 32 = rd m a := rfl

set_option maxRecDepth 100000 in
set_option maxHeartbeats 400000 in
theorem rhalf_any (m a : Nat) (h : m % 2 = 1) (h0 : 3 ≤ m) (hm : m < 2147483648) (w : World) :
    Calls Try.prog 15 #[.int .u32 (m : Int), .int .u64 (a : Int)] w fun e w' => e = .returned (.int .u64 ((rd m a : Nat) : Int)) ∧ w = w' := by
  have c := conv64 m (by omega)
  have n1 : ((m : Int) == 0) = false := by rw [beq_eq_false_iff_ne]; omega
  have n0 : ¬ (m : Int) = 0 := by omega
  have Z := Lib.hid (hvk_zero m a)
  have A := Lib.hid (hvk_all m a)
  have HO := Lib.hid h
  have HM := Lib.hid hm
  obtain ⟨x, hx⟩ : ∃ x, a % m = x := ⟨_, rfl⟩
  have r0 : (a : Int) % (m : Int) = (x : Int) := by rw [← hx]; rfl
  rw [hx] at Z
  clear hx h hm
  go_enter Try.func15, Try.ntmps15
  go_wp2
  go_loop [1, 5] (fun s i => ∃ k : Nat, k ≤ 32 ∧ i = .int .i64 (k : Int) ∧ s = .int .u64 ((hvk m a k : Nat) : Int)) (fun _ i => 32 - (intOf i).toNat)
  case atStart => exact ⟨0, by omega, rfl, by rw [Z.out, ← r0]⟩
  case round =>
    obtain ⟨k, hk, rfl, rfl⟩ := hrel
    by_cases hlt : k < 32
    · obtain ⟨y, hy⟩ : ∃ y, hvk m a k = y := ⟨_, rfl⟩
      obtain ⟨z, hz⟩ : ∃ z, hv m y = z := ⟨_, rfl⟩
      have hym : y < m := by rw [← hy]; exact hvk_lt m a k (by omega)
      have hs := hvk_succ m a k HO.out
      rw [hy, hz] at hs
      have HS := Lib.hid hs
      have hM := HM.out
      rw [hy]
      unfold hv at hz
      by_cases hb : y % 2 = 1
      · rw [if_pos hb] at hz
        obtain ⟨v, hv1⟩ : ∃ v, y + m = v := ⟨_, rfl⟩
        have r1 : ((y : Int) % 2 == 1) = true := by rw [beq_iff_eq]; omega
        have r2 : IntKind.u64.wrap ((y : Int) + (m : Int)) = (v : Int) := by rw [IntKind.wrap_u64]; omega
        have r3 : (v : Int) / 2 = (z : Int) := by omega
        have r4 := w64 z (by omega)
        clear hs hym hM hz hy hb hv1
        go_wp2
        go_round
        case rel => exact ⟨k + 1, by omega, by go_num, by rw [HS.out]⟩
        case measure => simp [intOf]; omega
      · rw [if_neg hb] at hz
        have r1 : ((y : Int) % 2 == 1) = false := by rw [beq_eq_false_iff_ne]; omega
        have r3 : (y : Int) / 2 = (z : Int) := by omega
        have r4 := w64 z (by omega)
        clear hs hym hM hz hy hb
        go_wp2
        go_round
        case rel => exact ⟨k + 1, by omega, by go_num, by rw [HS.out]⟩
        case measure => simp [intOf]; omega
    · have hk4 : k = 32 := by omega
      subst hk4
      rw [A.out]
      go_wp2
      go_ret
      exact ⟨rfl, rfl⟩

/-! ### Neg, digit by digit -/
theorem neg_only (m a b : Nat) (h : m % 2 = 1) (ha : a < 4294967296) (hb : b < 4294967296) (oa : NegOk m a) (ob : NegOk m b) : a = b := by
  have hi := inv_all m h
  obtain ⟨v, hv⟩ : ∃ v, itn m 4 = v := ⟨_, rfl⟩
  rw [hv] at hi
  have key : ∀ x, NegOk m x → (x + v) % 4294967296 = 0 := by
    intro x ox
    have c1 : Cg 4294967296 ((x * m + 1) * v) (0 * v) := Cg.mul (a := x * m + 1) (b := 0) ox (Cg.refl _ v)
    have c2 : Cg 4294967296 ((x * m + 1) * v) (x + v) := by
      rw [Nat.add_mul, Nat.one_mul, Nat.mul_assoc, Nat.mul_comm m v]
      have c3 : Cg 4294967296 (v * m) 1 := hi
      have := ((Cg.refl 4294967296 x).mul c3).add (Cg.refl 4294967296 v)
      rwa [Nat.mul_one] at this
    have c4 := c2.symm.trans c1
    rw [Nat.zero_mul] at c4
    exact c4
  have h1 := key a oa
  have h2 := key b ob
  omega
/-- What holds behind k digits. -/
def Dg (m k g : Nat) : Prop := (g * m + 1) % 2 ^ k = 0 ∧ g < 2 ^ k
theorem dg_start (m : Nat) : Dg m 0 0 := ⟨by rw [Nat.pow_zero, Nat.mod_one], by decide⟩
theorem dg_step (m k g : Nat) (h : m % 2 = 1) (d : Dg m k g) :
    (g * m / 2 ^ k % 2 = 0 → Dg m (k + 1) (g + 2 ^ k)) ∧ (g * m / 2 ^ k % 2 = 1 → Dg m (k + 1) g) := by
  obtain ⟨d1, d2⟩ := d
  obtain ⟨P, hP⟩ : ∃ P, 2 ^ k = P := ⟨_, rfl⟩
  have hpos : 0 < P := by rw [← hP]; exact Nat.two_pow_pos k
  rw [hP] at d1 d2
  have hP2 : 2 ^ (k + 1) = P * 2 := by rw [Nat.pow_succ, hP]
  unfold Dg
  rw [hP, hP2]
  obtain ⟨c, hc⟩ : ∃ c, g * m = c := ⟨_, rfl⟩
  obtain ⟨q, hq⟩ : ∃ q, c + 1 = P * q := ⟨(c + 1) / P, by rw [hc] at d1; rw [Nat.mul_comm, Nat.div_mul_cancel (Nat.dvd_of_mod_eq_zero d1)]⟩
  have hq0 : 0 < q := by
    rcases Nat.eq_zero_or_pos q with e | e
    · rw [e, Nat.mul_zero] at hq; omega
    · exact e
  have hdiv : c / P = q - 1 := by
    obtain ⟨r, hr⟩ : ∃ r, q = r + 1 := ⟨q - 1, by omega⟩
    subst hr
    rw [Nat.mul_add, Nat.mul_one] at hq
    have : c = P * r + (P - 1) := by omega
    rw [this, Nat.mul_add_div hpos, Nat.div_eq_of_lt (by omega)]
    omega
  rw [hc, hdiv]
  refine ⟨fun e => ⟨?_, by omega⟩, fun e => ⟨?_, by omega⟩⟩
  · obtain ⟨x, hx⟩ : ∃ x, q + m = 2 * x := ⟨(q + m) / 2, by omega⟩
    have : (g + P) * m + 1 = P * 2 * x := by
      rw [Nat.add_mul, hc, Nat.mul_assoc, ← hx, Nat.mul_add]
      omega
    rw [this, Nat.mul_mod_right]
  · obtain ⟨x, hx⟩ : ∃ x, q = 2 * x := ⟨q / 2, by omega⟩
    rw [hq, hx, ← Nat.mul_assoc, Nat.mul_mod_right]
theorem dg_end (m g : Nat) (h : m % 2 = 1) (hm : m < 4294967296) (d : Dg m 32 g) : g = ngn m := by
  obtain ⟨a, b⟩ := ngn_ok m h hm
  exact neg_only m _ _ h (by have := d.2; rw [two32] at this; exact this) b (by have := d.1; rw [two32] at this; exact this) a
end Go.Proofs.Ytpdbdnhjibkflaa
