/-
  Package root: above, Sqrt and its closure, over numbers.
-/
import Derived.Test.YtojpfijjnocboaaPk35
import Derived.Test.YtojpfijjnocboaaPk36
import Derived.Test.YtojpfijjnocboaaPk38
import Derived.Test.YtojpfijjnocboaaPk37
import Derived.Test.YtojpfijjnocboaaPk34
import Derived.WalkMore
namespace Go.Proofs.Ytojpfijjnocboaa
open Go.RowKit
set_option linter.unusedVariables false
set_option linter.unusedSimpArgs false

/-- How many bits are cut off the root. -/
def acut (A : Nat) : Nat := blen A / 4 - 8
/-- Where the steps begin indeed. -/
def abv (A : Nat) : Nat := if blen A ≤ 64 then fst A else (isq (A / 2 ^ (2 * acut A)) + 1) * 2 ^ acut A
theorem cut_gt (A c : Nat) : isq A < (isq (A / 2 ^ (2 * c)) + 1) * 2 ^ c := by
  have hp : 0 < 2 ^ c := Nat.two_pow_pos c
  have h1 : isq A / 2 ^ c ≤ isq (A / 2 ^ (2 * c)) := by
    refine isq_iff.2 ?_
    rw [Nat.le_div_iff_mul_le (Nat.two_pow_pos _), Nat.two_mul, Nat.pow_add, Nat.mul_mul_mul_comm]
    exact Nat.le_trans (Nat.mul_le_mul (Nat.div_mul_le_self _ _) (Nat.div_mul_le_self _ _)) (isq_le A)
  have h2 : isq A < (isq A / 2 ^ c + 1) * 2 ^ c := by
    rw [Nat.add_mul, Nat.one_mul, Nat.mul_comm]
    have h3 := Nat.div_add_mod (isq A) (2 ^ c)
    have h4 := Nat.mod_lt (isq A) hp
    omega
  exact Nat.lt_of_lt_of_le h2 (Nat.mul_le_mul_right _ (by omega))
theorem abv_gt (A : Nat) : isq A < abv A := by
  unfold abv
  split
  · exact fst_gt A
  · exact cut_gt A _
theorem isq_self (A : Nat) : isq A ≤ A := sq_le_self (isq_le A)
theorem abv_le (A : Nat) : abv A ≤ 2 * A + 2 := by
  have hA := isq_self A
  unfold abv
  split
  · have := fst_le A; omega
  · rename_i h
    have h0 : 0 < A := by
      rcases Nat.eq_zero_or_pos A with h0 | h0
      · subst h0; exact absurd (by decide) h
      · exact h0
    have h1 : 0 < A / 2 ^ (2 * acut A) := by
      refine Nat.div_pos (Nat.le_trans ?_ (ge_blen h0)) (Nat.two_pow_pos _)
      exact Nat.pow_le_pow_right (by decide) (by unfold acut; omega)
    have h2 := isq_pos h1
    have h3 : isq (A / 2 ^ (2 * acut A)) * 2 ^ acut A ≤ isq A := by
      refine isq_iff.2 ?_
      rw [Nat.mul_mul_mul_comm, ← Nat.pow_add, ← Nat.two_mul]
      exact Nat.le_trans (Nat.mul_le_mul_right _ (isq_le _)) (Nat.div_mul_le_self _ _)
    have h4 : (isq (A / 2 ^ (2 * acut A)) + 1) * 2 ^ acut A ≤ (2 * isq (A / 2 ^ (2 * acut A))) * 2 ^ acut A := Nat.mul_le_mul_right _ (by omega)
    rw [Nat.mul_assoc] at h4
    omega
theorem Sz.abv {A j : Nat} (h : Sz j A) : Sz (j + 1) (abv A) := by
  have h1 := abv_le A
  unfold Sz at *
  rw [Nat.pow_succ]
  omega
theorem sz_succ {j X : Nat} (h : Sz j X) : Sz (j + 1) (X + 1) := by
  unfold Sz at *
  rw [Nat.pow_succ]
  omega
theorem blen_cut {A : Nat} (h : ¬ blen A ≤ 64) : blen (A / 2 ^ (2 * acut A)) < blen A := by
  refine Nat.lt_of_le_of_lt (blen_lt (n := blen A - 16) ?_) (by omega)
  rw [Nat.div_lt_iff_lt_mul (Nat.two_pow_pos _), ← Nat.pow_add]
  exact Nat.lt_of_lt_of_le (lt_blen A) (Nat.pow_le_pow_right (by decide) (by unfold acut; omega))

set_option maxRecDepth 100000 in
set_option maxHeartbeats 4000000 in
theorem pabove_of (W : World) (va : Value) (A j : Nat) (ha : Nu W va A) (hs : Sz j A) (hj : j ≤ 400000)
    (KS : ∀ B, blen B < blen A → Sz j B → ∀ W' v', Nu W' v' B → Calls Try.prog 11 #[v'] W' (RwEnd2 .u64 W' (dig 18446744073709551616 (isq B)) (dig 18446744073709551616 (B - isq B * isq B)))) :
    Calls Try.prog 25 #[va] W (RwEnd .u64 W (dig 18446744073709551616 (abv A))) := by
  have hb := blen_nu ha
  have KL := Lib.hid (pLen W va A ha)
  by_cases hle : blen A ≤ 64
  · have e0 : abv A = fst A := by unfold abv; rw [if_pos hle]
    rw [e0]
    have KF := Lib.hid (fun W' (g : Bl W W') => pFirst W' va A (ha.bl g))
    obtain ⟨b, eb⟩ : ∃ b, blen A = b := ⟨_, rfl⟩
    rw [eb] at KL hb hle
    have d0 : decide ((b : Int) ≤ 64) = true := decide_eq_true (by omega)
    have d1 : decide (b ≤ 64) = true := decide_eq_true hle
    clear ha hs hj KS e0 hb hle eb
    go_enter Try.func25, Try.ntmps25
    go_wp2_with (first
      | (go_at_call 38; (with_reducible refine KL.out.mono ?_); rintro e w1 ⟨rfl, hb1⟩; have G1 := Lib.hid hb1; clear hb1)
      | (go_at_call 20; (with_reducible refine (KF.out _ G1.out).mono ?_); rintro e w2 ⟨v2, rfl, hr2, hb2⟩; have HR2 := Lib.hid hr2; have HB2 := Lib.hid (G1.out.trans hb2); clear hr2 hb2))
    go_ret
    exact RwEnd.mk HR2.out HB2.out
  · have e0 : abv A = (isq (A / 2 ^ (2 * acut A)) + 1) * 2 ^ acut A := by unfold abv; rw [if_neg hle]
    have hbl := blen_cut hle
    have hac : acut A = blen A / 4 - 8 := rfl
    obtain ⟨b, eb⟩ : ∃ b, blen A = b := ⟨_, rfl⟩
    rw [eb] at KL hb hle hac
    obtain ⟨c, ec⟩ : ∃ c, acut A = c := ⟨_, rfl⟩
    rw [ec] at e0 hac hbl
    obtain ⟨d, ed⟩ : ∃ d, 2 * c = d := ⟨_, rfl⟩
    rw [ed] at e0 hbl
    have KR := Lib.hid (fun W' (g : Bl W W') => pShr W' va A (d : Int) (ha.bl g) (by omega) (by omega))
    rw [Int.toNat_natCast] at KR
    have sB : Sz j (A / 2 ^ d) := hs.le (Nat.div_le_self _ _)
    have sB2 : Sz j (isq (A / 2 ^ d)) := sB.le (isq_self _)
    obtain ⟨B, eB⟩ : ∃ y, A / 2 ^ d = y := ⟨_, rfl⟩
    rw [eB] at KR sB sB2 e0 hbl
    have KQ := Lib.hid (fun W' v' (h : Rw .u64 W' v' (dig 18446744073709551616 B)) => KS B hbl sB W' v' (Nu.dig h sB (by omega)))
    obtain ⟨r, er⟩ : ∃ y, isq B = y := ⟨_, rfl⟩
    obtain ⟨t, et⟩ : ∃ x, B - isq B * isq B = x := ⟨_, rfl⟩
    rw [et] at KQ
    rw [er] at KQ sB2 e0
    have KA := Lib.hid (fun W' v' u' (h : Rw .u64 W' v' (dig 18446744073709551616 r)) (h' : Nu W' u' 1) => pAdd W' v' u' r 1 (Nu.dig h sB2 (by omega)) h')
    have s1 : Sz (j + 1) (r + 1) := sz_succ sB2
    obtain ⟨x, ex⟩ : ∃ x, r + 1 = x := ⟨_, rfl⟩
    rw [ex] at KA s1 e0
    have KU := Lib.hid (fun W' v' (h : Rw .u64 W' v' (dig 18446744073709551616 x)) => pShl W' v' x (c : Int) (Nu.dig h s1 (by omega)) (by omega) (by omega))
    rw [Int.toNat_natCast, ← e0] at KU
    have d0 : decide ((b : Int) ≤ 64) = false := decide_eq_false (by omega)
    have d1 : decide (b ≤ 64) = false := decide_eq_false hle
    have r1 : (b : Int) / 4 - 8 = (c : Int) := by omega
    have r2 : (2 : Int) * (c : Int) = (d : Int) := by omega
    have bb : (b : Int) ≤ 67108864 := by omega
    have cb : (c : Int) ≤ 67108864 := by omega
    have Z1 : Hid ((1 : Int) = ((1 : Nat) : Int)) := rfl
    have Z2 : Hid (1 < 18446744073709551616) := by show 1 < 18446744073709551616; decide
    clear ha hs hj KS e0 hb hle eb hbl hac ec ed sB sB2 eB er et s1 ex
    go_enter Try.func25, Try.ntmps25
    go_wp2_with (first
      | (go_at_call 38; (with_reducible refine KL.out.mono ?_); rintro e w1 ⟨rfl, hb1⟩; have G1 := Lib.hid hb1; clear hb1)
      | (go_at_call 34; (with_reducible refine (KR.out _ G1.out).mono ?_); rintro e w2 ⟨v2, rfl, hr2, hb2⟩; have R2 := Lib.hid hr2; have G2 := Lib.hid (G1.out.trans hb2); clear hr2 hb2)
      | (go_at_call 11; (with_reducible refine (KQ.out _ _ R2.out).mono ?_); rintro e w3 ⟨v3, v4, rfl, hr, hs, hb'⟩; have R3 := Lib.hid hr; have G3 := Lib.hid (G2.out.trans hb'); clear hr hs hb')
      | (go_at_call 35; (with_reducible refine (KA.out _ _ _ (R3.out.bl ((Bl.refl _).alloc _)) (nu_lit (by simp) Z1.out Z2.out)).mono ?_); rintro e w4 ⟨v5, rfl, hr, hb'⟩; have R4 := Lib.hid hr; have G4 := Lib.hid ((G3.out.alloc _).trans hb'); clear hr hb')
      | (go_at_call 37; (with_reducible refine (KU.out _ _ R4.out).mono ?_); rintro e w5 ⟨v6, rfl, hr, hb'⟩; have R5 := Lib.hid hr; have G5 := Lib.hid (G4.out.trans hb'); clear hr hb'))
    go_ret
    exact RwEnd.mk R5.out G5.out

set_option maxRecDepth 100000 in
set_option maxHeartbeats 4000000 in
theorem psqrtc_any (W0 W : World) (pa px : Nat) (va vx : Value) (A X j : Nat) (ha : Nu W va A) (hx : Nu W vx X) (ba : Boxed W pa 22 va) (bx : Boxed W px 22 vx) (hs : Sz j X) (hj : 2 * j + 2 < 1048576) (hle : X * X ≤ A) :
    Calls Try.prog 26 #[.pointer (some ⟨pa, 0, none⟩), .pointer (some ⟨px, 0, none⟩)] W (RwEnd .u64 W (dig 18446744073709551616 (A - X * X))) := by
  have KQ := Lib.hid (fun W' (g : Bl W W') => pSquare W' vx X j (hx.bl g) hs hj)
  have sq : Sz (j + j) (X * X) := szmul hs hs
  have KS : Hid (∀ W' v', Bl W W' → Rw .u64 W' v' (dig 18446744073709551616 (X * X)) → Calls Try.prog 27 #[va, v'] W' (RwErr .u64 W' (dig 18446744073709551616 (A - X * X)) 0)) := fun W' v' g h => by
    have c := pSub W' va v' A (X * X) (ha.bl g) (Nu.dig h sq (by omega))
    rw [if_neg (by omega)] at c
    exact c
  obtain ⟨p, ep⟩ : ∃ p, X * X = p := ⟨_, rfl⟩
  rw [ep] at KQ KS ⊢
  obtain ⟨la, ⟨B1, c1, rfl, _⟩, -⟩ := ha
  obtain ⟨lx, ⟨B2, c2, rfl, _⟩, -⟩ := hx
  have q1 := ba.cell
  have q2 := bx.cell
  have HA := Lib.hid ba
  have HX := Lib.hid bx
  clear hs hj hle sq ep ba bx
  go_enter Try.func26, Try.ntmps26
  go_wp2
  go_region_with (first
    | (go_at_call 28; (with_reducible refine (KQ.out _ (Bl.refl W).drew).mono ?_); rintro e w1 ⟨v1, rfl, hr, hb'⟩; have R1 := Lib.hid hr; have G1 := Lib.hid ((Bl.refl W).drew.trans hb'); have q3 := (G1.out.cell (p := ⟨pa, 0, none⟩) HA.out.lt).trans HA.out.cell; clear hr hb')
    | (go_at_call 27; (with_reducible refine (KS.out _ _ G1.out R1.out).mono ?_); rintro e w2 ⟨v2, rfl, hr, hb'⟩; have R2 := Lib.hid hr; have G2 := Lib.hid (G1.out.trans hb'); clear hr hb'))
  all_goals (try go_wp2)
  all_goals go_ret
  all_goals exact RwEnd.mk R2.out G2.out
end Go.Proofs.Ytojpfijjnocboaa
