/-
  The document's example, which stands in the statements of layer 12. · Package root: Word, bit by bit. · The walk of RootTells.
-/
import Derived.Test.YtojpfijjnocboaaPk40
import Derived.Test.YtojpfijjnocboaaPk41
import Derived.Test.YtojpfijjnocboaaPk35
import Derived.Test.YtojpfijjnocboaaPk6
import Derived.Test.YtojpfijjnocboaaPk15
namespace Go.Proofs.Ytojpfijjnocboaa
open Go.RowKit
set_option linter.unusedVariables false

theorem de_lit {w : World} {e : TypeId} {b c : Nat} (hc : dig 65536 c = [c]) (hb : b = w.heap.size) : De (w.alloc (.cells #[.int .i64 (c : Int)] e)) (.slice (some ⟨b, 0, none⟩) 1 1) c := by
  show Rw _ _ _ _
  rw [hc]
  exact lit_at hb
theorem sz_nwt {A X j : Nat} (h : Sz j A) (h' : Sz j X) : Sz j (nwt A X) := by
  have h2 : Sz j (A / X) := h.le (Nat.div_le_self _ _)
  unfold Sz at *
  unfold nwt
  omega
theorem sz_fst {A j : Nat} (h : Sz j A) : Sz (j + 1) (fst A) := by
  have h1 := fst_le A
  have h2 := isq_self A
  unfold Sz at *
  rw [Nat.pow_succ]
  omega

set_option maxRecDepth 100000 in
set_option maxHeartbeats 1000000 in
theorem shown12_any (w : World) : Calls Try.prog 10 #[] w fun e w' => e = .returned (.bool true) ∧ Bl w w' := by
  have e0 : isq 10 = 3 := isq_of (by decide) (by decide)
  have e1 : dig 18446744073709551616 3 = [3] := by decide +kernel
  have e2 : dig 18446744073709551616 (10 - 3 * 3) = [1] := by decide +kernel
  have z1 : Sz 1 10 := by unfold Sz; decide +kernel
  have S : Hid (∀ W v, Nu W v 10 → Calls Try.prog 11 #[v] W (RwEnd2 .u64 W [3] [1])) := fun W v h => by
    have := pSqrt W v 10 1 h z1 (by decide)
    rw [e0, e1, e2] at this
    exact this
  have Z3 : Hid ((10 : Int) = ((10 : Nat) : Int)) := rfl
  have Z4 : Hid (10 < 18446744073709551616) := by show 10 < 18446744073709551616; decide
  clear e0 e1 e2 z1
  go_enter Try.func10, Try.ntmps10
  go_wp2_with (go_at_call 11; (with_reducible refine (S.out _ _ (nu_lit (by simp) Z3.out Z4.out)).mono ?_); rintro e w1 ⟨v1, v2, rfl, hr, hs, hb'⟩; have G1 := Lib.hid (((Bl.refl w).alloc _).trans hb'); obtain ⟨a1, c1, hv1, hk1, x0⟩ := row1 hr; subst hv1; obtain ⟨a2, c2, hv2, hk2, y0⟩ := row1 hs; subst hv2; rw [Addr.add_zero'] at x0 y0; clear hr hs hb')
  go_ret
  exact ⟨rfl, G1.out⟩
end Go.Proofs.Ytojpfijjnocboaa
namespace Go.Proofs.Ytojpfijjnocboaa
open Go.RowKit
set_option linter.unusedVariables false
set_option linter.unusedSimpArgs false

/-- The bit that stands before the round in which t bits are still to be asked. -/
def wbit (t : Nat) : Nat := if t = 0 then 0 else 2 ^ (t - 1)
theorem wbit_half (t : Nat) : wbit (t + 1) / 2 = wbit t := by
  unfold wbit
  rw [if_neg (by omega), Nat.add_sub_cancel]
  split
  · rename_i h; subst h; rfl
  · obtain ⟨s, rfl⟩ : ∃ s, t = s + 1 := ⟨t - 1, by omega⟩
    rw [Nat.add_sub_cancel, Nat.pow_succ, Nat.mul_div_cancel _ (by decide)]
theorem word_isq {a : Nat} (h : a < 18446744073709551616) : isq a < 4294967296 := by
  refine Nat.lt_of_not_le fun h2 => ?_
  have := isq_iff.1 h2
  omega
theorem hib_word {a : Nat} (h : a < 18446744073709551616) : hib a 32 = 0 := by
  have := word_isq h
  unfold hib
  rw [Nat.div_eq_of_lt (by omega), Nat.zero_mul]
theorem hib_or (a t : Nat) : hib a (t + 1) ||| 2 ^ t = hib a (t + 1) + 2 ^ t := by
  have h := nat_join (t + 1) (hib a (t + 1)) (2 ^ t) (Nat.mul_mod_left _ _) (Nat.pow_lt_pow_right (by decide) (by omega))
  exact h
/-- One round, under names. -/
theorem word_round (a t : Nat) (h : a < 18446744073709551616) (ht : t < 32) : ∃ x b y : Nat, hib a (t + 1) = x ∧ wbit (t + 1) = b ∧ x < 4294967296 ∧ 0 < b ∧ b < 4294967296 ∧ bits .or .u64 (x : Int) (b : Int) = (y : Int) ∧ y < 4294967296 ∧ hib a t = (if y * y ≤ a then y else x) := by
  have h1 := word_isq h
  have h2 := hib_le a (t + 1)
  have hb : 2 ^ t < 4294967296 := by
    have : 2 ^ t < 2 ^ 32 := Nat.pow_lt_pow_right (by decide) ht
    simpa using this
  have hw : wbit (t + 1) = 2 ^ t := by unfold wbit; rw [if_neg (by omega), Nat.add_sub_cancel]
  refine ⟨_, _, hib a (t + 1) + 2 ^ t, rfl, hw, by omega, Nat.two_pow_pos _, hb, ?_, ?_, hib_step a t⟩
  · rw [bits_or_u64_nat _ _ (by omega) (by omega), hib_or]
  · have e3 : (2 : Nat) ^ 32 = 4294967296 := by decide
    have e1 : hib a (t + 1) ||| 2 ^ t < 2 ^ 32 := Nat.or_lt_two_pow (by omega) (Nat.pow_lt_pow_right (by decide) ht)
    rw [hib_or] at e1
    simpa using e1

set_option maxRecDepth 100000 in
set_option maxHeartbeats 4000000 in
theorem pWord (a : Nat) (ha : a < 18446744073709551616) (w : World) :
    Calls Try.prog 15 #[.int .u64 (a : Int)] w fun e w' => e = .returned (.int .u64 ((isq a : Nat) : Int)) ∧ w = w' := by
  have H0 := Lib.hid (hib_word ha)
  have HE := Lib.hid (hib_end a)
  have HR := Lib.hid (fun t ht => word_round a t ha ht)
  have HH := Lib.hid wbit_half
  have HA := Lib.hid ha
  obtain ⟨r, hr⟩ : ∃ r, isq a = r := ⟨_, rfl⟩
  rw [hr] at HE ⊢
  have W0 : Hid ((2147483648 : Int) = ((wbit 32 : Nat) : Int)) := rfl
  have W1 : Hid (wbit 0 = 0) := rfl
  clear hr ha
  go_enter Try.func15, Try.ntmps15
  go_wp2
  go_loop [3, 4] (fun x b => ∃ t : Nat, t ≤ 32 ∧ x = .int .u64 ((hib a t : Nat) : Int) ∧ b = .int .u64 ((wbit t : Nat) : Int)) (fun _ b => (intOf b).toNat)
  case atStart => exact ⟨32, Nat.le_refl _, by rw [H0.out]; rfl, by rw [W0.out]⟩
  case round =>
    obtain ⟨t, ht, rfl, rfl⟩ := hrel
    by_cases h0 : t = 0
    · subst h0
      rw [W1.out, HE.out, show ((0 : Nat) : Int) = 0 from rfl]
      go_wp2
      go_ret
      exact ⟨rfl, rfl⟩
    · obtain ⟨s, rfl⟩ : ∃ s, t = s + 1 := ⟨t - 1, by omega⟩
      obtain ⟨x, b, y, e1, e2, hx, hb0, hb, eo, hy, en⟩ := HR.out s (by omega)
      have hh := HH.out s
      rw [e2] at hh
      rw [e1, e2]
      obtain ⟨c, hc⟩ : ∃ c, wbit s = c := ⟨_, rfl⟩
      rw [hc] at hh
      obtain ⟨p, hp⟩ : ∃ p, y * y = p := ⟨_, rfl⟩
      have hpb : p < 18446744073709551616 := by
        have : y * y ≤ 4294967295 * 4294967295 := Nat.mul_le_mul (by omega) (by omega)
        omega
      have q1 : IntKind.u64.wrap ((y : Int) * (y : Int)) = (p : Int) := by rw [← Int.natCast_mul, hp]; exact wrapN _ hpb
      have q2 : (b : Int) / 2 = (c : Int) := by omega
      have q3 : decide ((0 : Int) < (b : Int)) = true := decide_eq_true (by omega)
      have q4 : decide (0 < b) = true := decide_eq_true hb0
      have xb : (x : Int) ≤ 4294967295 := by omega
      have bb : (b : Int) ≤ 4294967295 := by omega
      have yb : (y : Int) ≤ 4294967295 := by omega
      rw [hp] at en
      have HM : Hid (c < b) := by show c < b; omega
      have HS : Hid (s ≤ 32) := by show s ≤ 32; omega
      have HC := Lib.hid hc
      by_cases hle : p ≤ a
      · rw [if_pos hle] at en
        have EN := Lib.hid en
        have q5 : decide (p ≤ a) = true := decide_eq_true hle
        clear e1 e2 hh hc hp hpb en hle hb0 hb hx hy h0 ht
        go_wp2
        go_round
        case rel => exact ⟨s, HS.out, by rw [EN.out], by rw [HC.out]⟩
        case measure => have := HM.out; simp [intOf] <;> omega
      · rw [if_neg hle] at en
        have EN := Lib.hid en
        have q5 : decide (p ≤ a) = false := decide_eq_false hle
        clear e1 e2 hh hc hp hpb en hle hb0 hb hx hy h0 ht
        go_wp2
        go_round
        case rel => exact ⟨s, HS.out, by rw [EN.out], by rw [HC.out]⟩
        case measure => have := HM.out; simp [intOf] <;> omega
end Go.Proofs.Ytojpfijjnocboaa
namespace Go.Proofs.Ytojpfijjnocboaa
open Go.RowKit
set_option linter.unusedVariables false
set_option linter.unusedSimpArgs false

set_option maxRecDepth 100000 in
set_option maxHeartbeats 8000000 in
theorem rootTells_walk (va : Value) (la : List Nat) (x : Nat) (ha : All 18446744073709551616 la) (hx : x < 18446744073709551616) (w : World) (ra : Rw .u64 w va la) :
    Calls Try.prog 3 #[va, .int .u64 (x : Int)] w fun e w' => e = .returned (.bool true) ∧ Bl w w' := by
  obtain ⟨na, hna⟩ : ∃ n, la.length = n := ⟨_, rfl⟩
  have hla := rw_len ra
  obtain ⟨Za, ka, eva⟩ := rw_shape ra hna
  subst eva
  rw [hna] at hla
  have iba : (na : Int) ≤ 9223372036854775807 := by omega
  by_cases hf : 12 < na
  · skip
    have d1a : decide ((12 : Int) < (na : Int)) = true := decide_eq_true (by omega)
    have d2a : decide (12 < na) = true := decide_eq_true (by omega)
    clear ha ra hna hla hf hx
    go_enter Try.func3, Try.ntmps3
    go_wp2_with (first
      | (go_at_call 10; (with_reducible refine (shown12_any _).mono ?_); rintro e w1 ⟨rfl, hb'⟩; have G1 := Lib.hid hb'; clear hb'))
    go_ret
    exact ⟨rfl, G1.out⟩
  have d1a : decide ((12 : Int) < (na : Int)) = false := decide_eq_false (by omega)
  have d2a : decide (12 < na) = false := decide_eq_false (by omega)
  have Na : Hid (Nu w (.slice Za na ka) (val 18446744073709551616 la)) := Nu.mk ra ha (by omega)
  have sA := Lib.hid (Sz.of_val ha (k := 12) (by omega))
  obtain ⟨A, eA⟩ : ∃ x, val 18446744073709551616 la = x := ⟨_, rfl⟩
  rw [eA] at Na sA
  have HX := Lib.hid hx
  have sx : Hid (Sz 1 x) := by show Sz 1 x; unfold Sz; rw [Nat.pow_one]; exact hx
  obtain ⟨X, eX⟩ : ∃ yy, isq A = yy := ⟨_, rfl⟩
  have sX : Hid (Sz 12 X) := (by rw [← eX]; exact sA.out.le (isq_self A))
  obtain ⟨R, eR⟩ : ∃ yy, A - X * X = yy := ⟨_, rfl⟩
  have sR : Hid (Sz 12 R) := (by rw [← eR]; exact sA.out.le (Nat.sub_le _ _))
  obtain ⟨Y, eY⟩ : ∃ yy, isq x = yy := ⟨_, rfl⟩
  have sY : Hid (Sz 1 Y) := (by rw [← eY]; exact sx.out.le (isq_self x))
  obtain ⟨T, eT⟩ : ∃ yy, x - Y * Y = yy := ⟨_, rfl⟩
  have hY : Y < 18446744073709551616 := by rw [← eY]; exact Nat.lt_of_le_of_lt (isq_self x) hx
  have HY := Lib.hid hY
  obtain ⟨n, en⟩ : ∃ n, (dig 18446744073709551616 R).length = n := ⟨_, rfl⟩
  have LN := Lib.hid en
  have d0 : ((n : Int) == 0) = decide (R = 0) := by
    rw [← en]
    by_cases h0 : R = 0
    · subst h0; rw [dig_zero]; rfl
    · have := dig_len_pos 18446744073709551616 (by decide) R (by omega)
      rw [decide_eq_false h0, beq_eq_false_iff_ne]; omega
  have hnb := (sR.out.sd (by decide)).lenw
  rw [en] at hnb
  have nb : (n : Int) ≤ 200 := by omega
  obtain ⟨t, et⟩ : ∃ yy, decide (R = 0) = yy := ⟨_, rfl⟩
  rw [et] at d0
  have K1 : Hid (∀ W v, Nu W v A → Calls Try.prog 11 #[v] W (RwEnd2 .u64 W (dig 18446744073709551616 X) (dig 18446744073709551616 R))) := fun W v h0 => by
    have c := pSqrt W v A 12 h0 sA.out (by decide)
    rw [eX, eR] at c
    exact c
  have K2 : Hid (∀ W v, Nu W v A → Calls Try.prog 12 #[v] W (RwEnd2 .u64 W (dig 18446744073709551616 X) (dig 18446744073709551616 R))) := fun W v h0 => by
    have c := r12sqrt_any W v A h0 (sA.out.mono (by decide))
    rw [eX, eR] at c
    exact c
  have K3 : Hid (∀ W v, Nu W v x → Calls Try.prog 12 #[v] W (RwEnd2 .u64 W (dig 18446744073709551616 Y) (dig 18446744073709551616 T))) := fun W v h0 => by
    have c := r12sqrt_any W v x h0 (sx.out.mono (by decide))
    rw [eY, eT] at c
    exact c
  have K4 : Hid (∀ W, Calls Try.prog 15 #[.int .u64 (x : Int)] W (fun e w' => e = .returned (.int .u64 (Y : Int)) ∧ W = w')) := fun W => by
    have c := pWord x hx W
    rw [eY] at c
    exact c
  have K5 : Hid (∀ W v, Nu W v A → Calls Try.prog 17 #[v] W (fun e w' => e = .returned (.bool t) ∧ Bl W w')) := fun W v h0 => by
    have c := pWhole W v A 12 h0 sA.out (by decide)
    rw [eX, eR, et] at c
    exact c
  have D1 : Hid (∀ W v, Nu W v Y → Calls Try.prog 14 #[v] W (RwEnd .i64 W (dig 65536 Y))) := fun W v h0 => by
    have c := kDg h0
    exact c
  have D2 : Hid (∀ W v, De W v Y → Calls Try.prog 13 #[v] W (RwEnd .u64 W (dig 18446744073709551616 Y))) := fun W v h0 => by
    have c := kWords Y (sY.out.sd (by decide)) W v h0
    exact c
  have E1 := Lib.hid (kSame X (sX.out.sd (by decide)))
  have E2 := Lib.hid (kSame R (sR.out.sd (by decide)))
  have E3 := Lib.hid (kSame Y (sY.out.sd (by decide)))
  clear ha ra hna hla hf eA hx eX eR eY eT hY en hnb et
  go_enter Try.func3, Try.ntmps3
  go_wp2_with (first
    | (go_at_call 10; (with_reducible refine (shown12_any _).mono ?_); rintro e w1 ⟨rfl, hb'⟩; have G1 := Lib.hid hb'; clear hb')
    | (go_at_call 11; (with_reducible refine (K1.out _ _ (Na.out.bl G1.out)).mono ?_); rintro e w2 ⟨q, r, rfl, hr, hs, hb'⟩; have Rq := Lib.hid (hr); have Rr := Lib.hid (hs); have G2 := Lib.hid hb'; clear hr hs hb')
    | (go_at_call 12; (with_reducible refine (K2.out _ _ (Na.out.bl (G1.out.trans G2.out))).mono ?_); rintro e w3 ⟨p, s, rfl, hr, hs, hb'⟩; have Rp := Lib.hid (hr); have Rs := Lib.hid (hs); have G3 := Lib.hid hb'; clear hr hs hb'; obtain ⟨A_1, k_1, e_1⟩ := rw_shape Rs.out LN.out; subst e_1)
    | (go_at_call 12; (with_reducible refine (K3.out _ _ (nu_lit (by simp) rfl HX.out)).mono ?_); rintro e w4 ⟨z, z1, rfl, hr, hs, hb'⟩; have Rz := Lib.hid (hr); have G4 := Lib.hid (((Bl.refl _).alloc _).trans hb'); clear hr hs hb')
    | (go_at_call 15; (with_reducible refine (K4.out _).mono ?_); rintro e w' ⟨rfl, rfl⟩)
    | (go_at_call 14; (with_reducible refine (D1.out _ _ (nu_lit (by simp) rfl HY.out)).mono ?_); rintro e w5 ⟨d1, rfl, hr, hb'⟩; have G_1 := Lib.hid (hr); have G5 := Lib.hid (((Bl.refl _).alloc _).trans hb'); clear hr hb')
    | (go_at_call 13; (with_reducible refine (D2.out _ _ G_1.out).mono ?_); rintro e w6 ⟨d2, rfl, hr, hb'⟩; have G_2 := Lib.hid (hr); have G6 := Lib.hid hb'; clear hr hb')
    | (go_at_call 16; (with_reducible refine (E1.out _ _ _ (Rq.out.bl (G3.out.trans (G4.out.trans (G5.out.trans G6.out)))) (Rp.out.bl (G4.out.trans (G5.out.trans G6.out)))).mono ?_); rintro e w7 ⟨rfl, hb'⟩; have G7 := Lib.hid hb'; clear hb')
    | (go_at_call 16; (with_reducible refine (E2.out _ _ _ (Rr.out.bl (G3.out.trans (G4.out.trans (G5.out.trans (G6.out.trans G7.out))))) (Rs.out.bl (G4.out.trans (G5.out.trans (G6.out.trans G7.out))))).mono ?_); rintro e w8 ⟨rfl, hb'⟩; have G8 := Lib.hid hb'; clear hb')
    | (go_at_call 17; (with_reducible refine (K5.out _ _ (Na.out.bl (G1.out.trans (G2.out.trans (G3.out.trans (G4.out.trans (G5.out.trans (G6.out.trans (G7.out.trans G8.out))))))))).mono ?_); rintro e w9 ⟨rfl, hb'⟩; have G9 := Lib.hid hb'; clear hb')
    | (go_at_call 16; (with_reducible refine (E3.out _ _ _ (G_2.out.bl (G7.out.trans (G8.out.trans G9.out))) (Rz.out.bl (G5.out.trans (G6.out.trans (G7.out.trans (G8.out.trans G9.out)))))).mono ?_); rintro e w10 ⟨rfl, hb'⟩; have G10 := Lib.hid hb'; clear hb'))
  go_ret
  exact ⟨rfl, (G1.out.trans (G2.out.trans (G3.out.trans (G4.out.trans (G5.out.trans (G6.out.trans (G7.out.trans (G8.out.trans (G9.out.trans G10.out)))))))))⟩
end Go.Proofs.Ytojpfijjnocboaa
