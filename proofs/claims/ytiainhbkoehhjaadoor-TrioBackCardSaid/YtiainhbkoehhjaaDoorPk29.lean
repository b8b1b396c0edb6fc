/-
  The document's answers for package mont: what each answers, in natural numbers. · The document's Make and Pow for layer 3; the example that stands at the head of each statement.
-/
import Derived.Test.YtiainhbkoehhjaaDoorPk9
import Derived.Test.YtiainhbkoehhjaaDoorPk21
import Derived.BigQuiet
import Derived.Test.YtiainhbkoehhjaaDoorPk18
namespace Go.Proofs.YtiainhbkoehhjaaDoor
open Go.RowKit
set_option linter.unusedVariables false

/-- a times b modulo m. -/
def tn (m a b : Nat) : Nat := a * b % m
theorem turn_num (m a b : Nat) (h0 : 3 ≤ m) (hm : m < 2147483648) : ∃ x y z t : Nat,
    (a : Int).tmod (m : Int) = (x : Int) ∧ (b : Int).tmod (m : Int) = (y : Int) ∧ IntKind.u64.wrap ((x : Int) * (y : Int)) = (z : Int) ∧ (z : Int).tmod (m : Int) = (t : Int) ∧ tn m a b = t := by
  refine ⟨a % m, b % m, a % m * (b % m), tn m a b, ?_, ?_, ?_, ?_, rfl⟩
  · rw [Int.tmod_eq_emod_of_nonneg (by omega)]; rfl
  · rw [Int.tmod_eq_emod_of_nonneg (by omega)]; rfl
  · have h1 : a % m * (b % m) < 2147483648 * 2147483648 := Nat.mul_lt_mul'' (Nat.lt_trans (Nat.mod_lt _ (by omega)) hm) (Nat.lt_trans (Nat.mod_lt _ (by omega)) hm)
    rw [← Int.natCast_mul, wrapN _ (by omega)]
  · rw [Int.tmod_eq_emod_of_nonneg (by omega)]
    unfold tn
    rw [Nat.mul_mod a b m]; rfl

set_option maxRecDepth 100000 in
theorem rturn_any (m a b : Nat) (h0 : 3 ≤ m) (hm : m < 2147483648) (w : World) :
    Calls Tryd.prog 40 #[.int .u32 (m : Int), .int .u64 (a : Int), .int .u64 (b : Int)] w fun e w' => e = .returned (.int .u64 ((tn m a b : Nat) : Int)) ∧ Gr w w' := by
  obtain ⟨x, y, z, t, r1, r2, r3, r4, ht⟩ := turn_num m a b h0 hm
  have c := conv64 m (by omega)
  have n0 : ¬ (m : Int) = 0 := by omega
  have n1 : ((m : Int) == 0) = false := by rw [beq_eq_false_iff_ne]; omega
  rw [ht]
  clear ht h0 hm
  go_enter Tryd.func40, Tryd.ntmps40
  go_wp2
  go_quiet (fail)
  go_wp2
  go_ret
  exact ⟨rfl, (Gr.refl _).drewN _⟩

/-! ### Halved 32 times -/
def hv (m a : Nat) : Nat := if a % 2 = 1 then (a + m) / 2 else a / 2
def hvk (m a k : Nat) : Nat := a * hf m ^ k % m
theorem hv_eq (m a : Nat) (h : m % 2 = 1) (ha : a < m) : hv m a = a * hf m % m := by
  have e : Cg m (hv m a * 2) a := by
    unfold hv
    split
    · rw [show (a + m) / 2 * 2 = a + 1 * m from by omega]; exact Cg.over m a 1
    · rw [show a / 2 * 2 = a from by omega]; exact Cg.refl m a
  have hlt : hv m a < m := by unfold hv; split <;> omega
  have c := (e.mul (Cg.refl m (hf m)))
  rw [Nat.mul_assoc] at c
  have c2 := (Cg.refl m (hv m a)).mul (hf_cg m h)
  rw [Nat.mul_one] at c2
  exact Cg.eq ((c2.symm.trans c).trans (Cg.mod m _).symm) hlt (Nat.mod_lt _ (by omega))
theorem hvk_zero (m a : Nat) : hvk m a 0 = a % m := by unfold hvk; rw [Nat.pow_zero, Nat.mul_one]
theorem hvk_lt (m a k : Nat) (h : 0 < m) : hvk m a k < m := Nat.mod_lt _ h
theorem hvk_succ (m a k : Nat) (h : m % 2 = 1) : hv m (hvk m a k) = hvk m a (k + 1) := by
  rw [hv_eq m _ h (hvk_lt m a k (by omega))]
  unfold hvk
  rw [Nat.mod_mul_mod, Nat.pow_succ, Nat.mul_assoc]
theorem hvk_all (m a : Nat) : hvk m a 32 = rd m a := rfl

/-! ### Neg, digit by digit -/
theorem neg_only (m a b : Nat) (h : m % 2 = 1) (ha : a < 4294967296) (hb : b < 4294967296) (oa : NegOk m a) (ob : NegOk m b) : a = b := by
  have hi := inv_all m h
  obtain ⟨v, hv⟩ : ∃ v, itn m 4 = v := ⟨_, rfl⟩
  rw [hv] at hi
  have key : ∀ x, NegOk m x → (x + v) % 4294967296 = 0 := by
    intro x ox
    have c1 : Cg 4294967296 ((x * m + 1) * v) (0 * v) := Cg.mul (a := x * m + 1) (b := 0) ox (Cg.refl _ v)
    have c2 : Cg 4294967296 ((x * m + 1) * v) (x + v) := by
      rw [Nat.add_mul, Nat.one_mul, Nat.mul_assoc, Nat.mul_comm m v]
      have c3 : Cg 4294967296 (v * m) 1 := hi
      have := ((Cg.refl 4294967296 x).mul c3).add (Cg.refl 4294967296 v)
      rwa [Nat.mul_one] at this
    have c4 := c2.symm.trans c1
    rw [Nat.zero_mul] at c4
    exact c4
  have h1 := key a oa
  have h2 := key b ob
  omega
/-- What holds behind k digits. -/
def Dg (m k g : Nat) : Prop := (g * m + 1) % 2 ^ k = 0 ∧ g < 2 ^ k
theorem dg_start (m : Nat) : Dg m 0 0 := ⟨by rw [Nat.pow_zero, Nat.mod_one], by decide⟩
theorem dg_step (m k g : Nat) (h : m % 2 = 1) (d : Dg m k g) :
    (g * m / 2 ^ k % 2 = 0 → Dg m (k + 1) (g + 2 ^ k)) ∧ (g * m / 2 ^ k % 2 = 1 → Dg m (k + 1) g) := by
  obtain ⟨d1, d2⟩ := d
  obtain ⟨P, hP⟩ : ∃ P, 2 ^ k = P := ⟨_, rfl⟩
  have hpos : 0 < P := by rw [← hP]; exact Nat.two_pow_pos k
  rw [hP] at d1 d2
  have hP2 : 2 ^ (k + 1) = P * 2 := by rw [Nat.pow_succ, hP]
  unfold Dg
  rw [hP, hP2]
  obtain ⟨c, hc⟩ : ∃ c, g * m = c := ⟨_, rfl⟩
  obtain ⟨q, hq⟩ : ∃ q, c + 1 = P * q := ⟨(c + 1) / P, by rw [hc] at d1; rw [Nat.mul_comm, Nat.div_mul_cancel (Nat.dvd_of_mod_eq_zero d1)]⟩
  have hq0 : 0 < q := by
    rcases Nat.eq_zero_or_pos q with e | e
    · rw [e, Nat.mul_zero] at hq; omega
    · exact e
  have hdiv : c / P = q - 1 := by
    obtain ⟨r, hr⟩ : ∃ r, q = r + 1 := ⟨q - 1, by omega⟩
    subst hr
    rw [Nat.mul_add, Nat.mul_one] at hq
    have : c = P * r + (P - 1) := by omega
    rw [this, Nat.mul_add_div hpos, Nat.div_eq_of_lt (by omega)]
    omega
  rw [hc, hdiv]
  refine ⟨fun e => ⟨?_, by omega⟩, fun e => ⟨?_, by omega⟩⟩
  · obtain ⟨x, hx⟩ : ∃ x, q + m = 2 * x := ⟨(q + m) / 2, by omega⟩
    have : (g + P) * m + 1 = P * 2 * x := by
      rw [Nat.add_mul, hc, Nat.mul_assoc, ← hx, Nat.mul_add]
      omega
    rw [this, Nat.mul_mod_right]
  · obtain ⟨x, hx⟩ : ∃ x, q = 2 * x := ⟨q / 2, by omega⟩
    rw [hq, hx, ← Nat.mul_assoc, Nat.mul_mod_right]
theorem dg_end (m g : Nat) (h : m % 2 = 1) (hm : m < 4294967296) (d : Dg m 32 g) : g = ngn m := by
  obtain ⟨a, b⟩ := ngn_ok m h hm
  exact neg_only m _ _ h (by have := d.2; rw [two32] at this; exact this) b (by have := d.1; rw [two32] at this; exact this) a
end Go.Proofs.YtiainhbkoehhjaaDoor
namespace Go.Proofs.YtiainhbkoehhjaaDoor
open Go.RowKit
set_option linter.unusedVariables false

/-- One digit, as the walk reckons it. -/
theorem dg_num (m k g : Nat) (hm : m < 2147483648) (hk : k < 32) (d : Dg m k g) : ∃ P c q : Nat, 2 ^ k = P ∧ IntKind.u64.wrap ((g : Int) * (m : Int)) = (c : Int) ∧ (c : Int) / (P : Int) = (q : Int) ∧ g * m / P = q ∧
    ¬ (P : Int) = 0 ∧ IntKind.u64.wrap (q : Int) = (q : Int) ∧ IntKind.u64.wrap ((g : Int) + (P : Int)) = ((g + P : Nat) : Int) ∧ IntKind.u64.wrap ((P : Int) + (P : Int)) = ((2 ^ (k + 1) : Nat) : Int) := by
  obtain ⟨P, hP⟩ : ∃ P, 2 ^ k = P := ⟨_, rfl⟩
  have hpos : 0 < P := by rw [← hP]; exact Nat.two_pow_pos k
  have hle : P ≤ 2147483648 := by rw [← hP]; exact Nat.pow_le_pow_right (by omega) (show k ≤ 31 by omega)
  have hg : g < P := by rw [← hP]; exact d.2
  have hP2 : 2 ^ (k + 1) = P * 2 := by rw [Nat.pow_succ, hP]
  have hgm : g * m < 2147483648 * 2147483648 := Nat.mul_lt_mul'' (by omega) hm
  have hq : g * m / P ≤ g * m := Nat.div_le_self _ _
  refine ⟨P, g * m, g * m / P, hP, ?_, rfl, rfl, by omega, wrapN _ (by omega), ?_, ?_⟩
  · rw [← Int.natCast_mul, wrapN _ (by omega)]
  · rw [← Int.natCast_add, wrapN _ (by omega)]
  · rw [hP2, ← Int.natCast_add, wrapN _ (by omega)]; omega

/-! ### The document's power -/
/-- v times b to the n is what is sought. -/
theorem rp_odd (m v b n : Nat) (h : n % 2 = 1) : tn m v (b ^ n) = tn m (tn m v b) (tn m b b ^ (n / 2)) := by
  have e : n = 2 * (n / 2) + 1 := by omega
  have c : Cg m (v * b ^ n) (v * b * ((b * b) ^ (n / 2))) := by
    rw [show b ^ n = b ^ (2 * (n / 2) + 1) from by rw [← e], Nat.pow_succ, Nat.pow_mul, Nat.pow_two]
    exact Cg.of_eq (by simp only [Nat.mul_assoc, Nat.mul_comm])
  exact c.trans (((Cg.mod m (v * b)).mul ((Cg.mod m (b * b)).pow (n / 2))).symm)
theorem rp_even (m v b n : Nat) (h : n % 2 = 0) : tn m v (b ^ n) = tn m v (tn m b b ^ (n / 2)) := by
  have e : n = 2 * (n / 2) := by omega
  have c : Cg m (v * b ^ n) (v * ((b * b) ^ (n / 2))) := by
    rw [show b ^ n = b ^ (2 * (n / 2)) from by rw [← e], Nat.pow_mul, Nat.pow_two]
    exact Cg.refl _ _
  exact c.trans ((Cg.refl m v).mul ((Cg.mod m (b * b)).pow (n / 2)).symm)

set_option maxRecDepth 100000 in
set_option maxHeartbeats 1000000 in
theorem rpow_any (m a n : Nat) (h0 : 3 ≤ m) (hm : m < 2147483648) (hn : n < 18446744073709551616) (w : World) :
    Calls Tryd.prog 51 #[.int .u32 (m : Int), .int .u64 (a : Int), .int .u64 (n : Int)] w fun e w' => e = .returned (.int .u64 ((a ^ n % m : Nat) : Int)) ∧ Gr w w' := by
  have c := conv64 m (by omega)
  have n0 : ¬ (m : Int) = 0 := by omega
  have n1 : ((m : Int) == 0) = false := by rw [beq_eq_false_iff_ne]; omega
  have r0 : (1 : Int) % (m : Int) = 1 := Int.emod_eq_of_lt (by omega) (by omega)
  have R0 := Lib.hid r0
  clear r0
  have T := Lib.hid (fun x y w => rturn_any m x y h0 hm w)
  have HS : Hid (tn m 1 (a ^ n) = a ^ n % m) := by show 1 * a ^ n % m = a ^ n % m; rw [Nat.one_mul]
  have HM := Lib.hid h0
  have HN := Lib.hid hn
  clear hm h0 hn
  go_enter Tryd.func51, Tryd.ntmps51
  go_wp2
  go_loopw [1, 2, 7] (fun b n' v wr => ∃ y k x : Nat, b = .int .u64 (y : Int) ∧ n' = .int .u64 (k : Int) ∧ v = .int .u64 (x : Int) ∧ Hid (tn m x (y ^ k) = tn m 1 (a ^ n)) ∧ Hid (x < m) ∧ Hid (k < 18446744073709551616) ∧ Gr w wr) (fun _ n' _ _ => (intOf n').toNat)
  case atStart => exact ⟨a, n, 1, rfl, rfl, by rw [R0.out]; rfl, rfl, (by have := HM.out; show 1 < m; omega), HN, Gr.refl w⟩
  case round =>
    obtain ⟨y, k, x, rfl, rfl, rfl, he, hx, hkn, hg⟩ := hrel
    have HG := Lib.hid hg
    clear hg
    by_cases hk : k = 0
    · subst hk
      have hend : Hid (x = a ^ n % m) := by
        have e := he.out
        rw [HS.out] at e
        rw [Nat.pow_zero] at e
        unfold tn at e
        rw [Nat.mul_one, Nat.mod_eq_of_lt hx.out] at e
        exact e
      go_wp2
      go_ret
      exact ⟨by first | (rw [hend.out]; rfl) | rw [hend.out], HG.out⟩
    · have hpos : 0 < k := by omega
      obtain ⟨z, hz⟩ : ∃ z, tn m y y = z := ⟨_, rfl⟩
      have T2 := Lib.hid (fun w => T.out y y w)
      rw [hz] at T2
      obtain ⟨h, hh⟩ : ∃ h, k / 2 = h := ⟨_, rfl⟩
      have HH := Lib.hid hh
      have r8 : (k : Int) / 2 = (h : Int) := by omega
      have hkn' := hkn.out
      have r9 := w64 h (by omega)
      have hhn : Hid (h < 18446744073709551616) := by show h < _; omega
      clear hkn'
      rcases Nat.mod_two_eq_zero_or_one k with ht | ht
      · have r7 : ((k : Int) % 2 == 1) = false := by rw [beq_eq_false_iff_ne]; omega
        have e := rp_even m x y k ht
        rw [hz] at e
        have HE := Lib.hid (e.symm.trans he.out)
        rw [hh] at HE
        clear e hz ht hk hh
        go_wp2_with (go_at_call 40; (with_reducible refine (T2.out _).mono ?_); rintro e w2 ⟨rfl, hg⟩; have HG2 := Lib.hid (HG.out.trans hg); clear hg)
        go_roundw
        case rel => exact ⟨z, h, x, rfl, rfl, rfl, HE, hx, hhn, HG2.out⟩
        case measure => simp [intOf]; have := HH.out; omega
      · have r7 : ((k : Int) % 2 == 1) = true := by rw [beq_iff_eq]; omega
        have e := rp_odd m x y k ht
        rw [hz] at e
        obtain ⟨u, hu⟩ : ∃ u, tn m x y = u := ⟨_, rfl⟩
        have hum : Hid (u < m) := by rw [← hu]; exact Nat.mod_lt _ (by have := HM.out; omega)
        have T1 := Lib.hid (fun w => T.out x y w)
        rw [hu] at T1 e
        have HE := Lib.hid (e.symm.trans he.out)
        rw [hh] at HE
        clear e hz ht hk hu hh
        go_wp2_with (first
          | (go_at_call 40; (with_reducible refine (T1.out _).mono ?_); rintro e w2 ⟨rfl, hg⟩; have HG2 := Lib.hid (HG.out.trans hg); clear hg)
          | (go_at_call 40; (with_reducible refine (T2.out _).mono ?_); rintro e w3 ⟨rfl, hg⟩; have HG3 := Lib.hid (HG2.out.trans hg); clear hg))
        go_roundw
        case rel => exact ⟨z, h, u, rfl, rfl, rfl, HE, hum, hhn, HG3.out⟩
        case measure => simp [intOf]; have := HH.out; omega
end Go.Proofs.YtiainhbkoehhjaaDoor
