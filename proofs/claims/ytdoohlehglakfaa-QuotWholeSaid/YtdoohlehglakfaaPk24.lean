/-
  Package quot: estimate: a figure by the highest words.
-/
import Derived.Test.YtdoohlehglakfaaPk23
namespace Go.Proofs.Ytdoohlehglakfaa
open Go.RowKit
set_option linter.unusedVariables false
set_option linter.unusedSimpArgs false

/-- The figure as it is guessed. -/
def esq (U1 U0 V : Nat) : Nat := if V ≤ U1 then 18446744073709551615 else (U1 * 18446744073709551616 + U0) / V
theorem est_num' (B R D P S x L : Nat) (hP : 0 < P) (hS : 0 < S) (hL : 0 < L) (hSL : S * L = B) (hx1 : L ≤ 2 * x) (hx2 : x < L) (hD1 : P * x ≤ D) (hD2 : D < P * (x + 1)) :
    D * S / P < B ∧ B ≤ 2 * (D * S / P) ∧ (R < D * B → R * S / (P * B) < B ∧ (D * S / P ≤ R * S / (P * B) → R / D ≤ B - 1 ∧ B - 1 ≤ R / D + 2) ∧
    (R * S / (P * B) < D * S / P → R * S / P / (D * S / P) < B ∧ R / D ≤ R * S / P / (D * S / P) ∧ R * S / P / (D * S / P) ≤ R / D + 2)) := by
  have hx0 : 0 < x := by omega
  have hB : 0 < B := by rw [← hSL]; exact Nat.mul_pos hS hL
  have hDp : 0 < D := Nat.lt_of_lt_of_le (Nat.mul_pos hP hx0) hD1
  have hDS : D * S < P * B := by
    calc D * S < P * (x + 1) * S := Nat.mul_lt_mul_of_pos_right hD2 hS
      _ ≤ P * L * S := Nat.mul_le_mul_right _ (Nat.mul_le_mul_left _ hx2)
      _ = P * B := by rw [Nat.mul_assoc, Nat.mul_comm L S, hSL]
  have hV1 : D * S / P * P ≤ D * S := Nat.div_mul_le_self _ _
  have hV2 : D * S < (D * S / P + 1) * P := by rw [Nat.mul_comm (D * S / P + 1)]; exact Nat.lt_mul_div_succ _ hP
  have hVB : D * S / P < B := by rw [Nat.div_lt_iff_lt_mul hP, Nat.mul_comm B]; exact hDS
  have hVx : x * S ≤ D * S / P := by
    rw [Nat.le_div_iff_mul_le hP, Nat.mul_right_comm, Nat.mul_comm x P]
    exact Nat.mul_le_mul_right _ hD1
  have hV3 : B ≤ 2 * (D * S / P) := by
    have : S * L ≤ S * (2 * x) := Nat.mul_le_mul_left _ hx1
    rw [hSL] at this
    have e : S * (2 * x) = 2 * (x * S) := by ac_rfl
    omega
  have hVp : 0 < D * S / P := by omega
  refine ⟨hVB, hV3, fun hlt => ?_⟩
  have hRS : R * S < P * B * B := by
    calc R * S < D * B * S := Nat.mul_lt_mul_of_pos_right hlt hS
      _ = D * S * B := by ac_rfl
      _ ≤ P * B * B := Nat.mul_le_mul_right _ (Nat.le_of_lt hDS)
  have hU1 : R * S / (P * B) < B := by rw [Nat.div_lt_iff_lt_mul (Nat.mul_pos hP hB), Nat.mul_comm B]; exact hRS
  have hq : R / D < B := by rw [Nat.div_lt_iff_lt_mul hDp, Nat.mul_comm]; exact hlt
  have hUU : R * S / P / B = R * S / (P * B) := Nat.div_div_eq_div_mul _ _ _
  refine ⟨hU1, fun h => ⟨by omega, ?_⟩, fun h => ⟨?_, est_low hP hVp hV1 rfl, ?_⟩⟩
  · refine est_high hP hDp hS hV1 hV2 rfl ?_ (Nat.sub_le B 1) hV3
    rw [← hUU] at h
    have h1 : D * S / P * B ≤ R * S / P / B * B := Nat.mul_le_mul_right _ h
    have h2 : R * S / P / B * B ≤ R * S / P := Nat.div_mul_le_self _ _
    have h3 : (B - 1) * (D * S / P) ≤ B * (D * S / P) := Nat.mul_le_mul_right _ (Nat.sub_le B 1)
    rw [Nat.mul_comm B] at h3
    omega
  · rw [Nat.div_lt_iff_lt_mul hVp, Nat.mul_comm B]
    rw [← hUU, Nat.div_lt_iff_lt_mul hB] at h
    exact h
  · refine est_high hP hDp hS hV1 hV2 rfl (Nat.div_mul_le_self _ _) (B := B) ?_ hV3
    refine Nat.le_of_lt ?_
    rw [Nat.div_lt_iff_lt_mul hVp, Nat.mul_comm B]
    rw [← hUU, Nat.div_lt_iff_lt_mul hB] at h
    exact h
theorem est_num (rl dl : List Nat) (m s x : Nat) (hr : All 18446744073709551616 rl) (hd : All 18446744073709551616 dl) (hdl : dl.length = m + 1) (hrl : m + 1 < rl.length) (hm : m < dl.length) (hx : dl[m] = x) (hx0 : 0 < x) (hs : 64 - Lib.bitLen x = s) :
    x < 18446744073709551616 ∧ s ≤ 63 ∧ 0 < mvd dl m s ∧ mvd dl m s < 18446744073709551616 ∧ mvd rl (m + 1) s < 18446744073709551616 ∧ mvd rl m s < 18446744073709551616 ∧
    esq (mvd rl (m + 1) s) (mvd rl m s) (mvd dl m s) < 18446744073709551616 ∧ (val 18446744073709551616 rl < val 18446744073709551616 dl * 18446744073709551616 → val 18446744073709551616 rl / val 18446744073709551616 dl ≤ esq (mvd rl (m + 1) s) (mvd rl m s) (mvd dl m s) ∧
    esq (mvd rl (m + 1) s) (mvd rl m s) (mvd dl m s) ≤ val 18446744073709551616 rl / val 18446744073709551616 dl + 2) := by
  have hxB : x < 18446744073709551616 := hx ▸ hd m hm
  obtain ⟨b1, b2, b3⟩ := bl_bounds x hx0 hxB
  have hbl := bl_le x hxB
  obtain ⟨t, ht⟩ : ∃ t, Lib.bitLen x = t := ⟨_, rfl⟩
  rw [ht] at b1 b2 b3 hbl hs
  have hs63 : s ≤ 63 := by omega
  have e1 := mvd_val dl hd m s hs63 hm
  have e2 := mvd_val rl hr (m + 1) s hs63 hrl
  have e3 := mvd_val rl hr m s hs63 (by omega)
  have hvd := val_take_succ 18446744073709551616 dl m hm
  rw [List.take_of_length_le (by omega), hx] at hvd
  have hlo := val_lt 18446744073709551616 (by decide) _ (all_take hd m)
  rw [List.length_take, Nat.min_eq_left (by omega)] at hlo
  have hSL : 2 ^ s * 2 ^ t = 18446744073709551616 := by
    have := pq64 s (by omega)
    rwa [show 64 - s = t by omega] at this
  obtain ⟨R, hR⟩ : ∃ R, val 18446744073709551616 rl = R := ⟨_, rfl⟩
  obtain ⟨D, hD⟩ : ∃ R, val 18446744073709551616 dl = R := ⟨_, rfl⟩
  rw [hR] at e2 e3 ⊢
  rw [hD] at e1 hvd ⊢
  obtain ⟨lo, hlo'⟩ : ∃ R, val 18446744073709551616 (dl.take m) = R := ⟨_, rfl⟩
  rw [hlo'] at hvd hlo
  rw [Nat.pow_succ] at e2
  obtain ⟨P, hP⟩ : ∃ P, 18446744073709551616 ^ m = P := ⟨_, rfl⟩
  have hPp : 0 < P := by rw [← hP]; exact Nat.pow_pos (by decide)
  rw [hP] at e1 e2 e3 hvd hlo
  have hx1 : 2 ^ t ≤ 2 * x := by
    have : 2 ^ t = 2 * 2 ^ (t - 1) := by rw [← Nat.pow_succ']; congr 1; omega
    omega
  obtain ⟨k1, k2, k3⟩ := est_num' 18446744073709551616 R D P (2 ^ s) x (2 ^ t) hPp (Nat.two_pow_pos _) (Nat.two_pow_pos _) hSL hx1 b3 (by omega) (by rw [Nat.mul_add]; omega)
  rw [Nat.mod_eq_of_lt k1] at e1
  have hUU : R * 2 ^ s / P / 18446744073709551616 = R * 2 ^ s / (P * 18446744073709551616) := Nat.div_div_eq_div_mul _ _ _
  have u1 : mvd rl (m + 1) s < 18446744073709551616 := by rw [e2]; exact Nat.mod_lt _ (by decide)
  have u0 : mvd rl m s < 18446744073709551616 := by rw [e3]; exact Nat.mod_lt _ (by decide)
  rw [e1]
  refine ⟨hxB, hs63, by omega, k1, u1, u0, ?_, fun hlt => ?_⟩
  · unfold esq
    by_cases h : D * 2 ^ s / P ≤ mvd rl (m + 1) s
    · rw [if_pos h]; decide
    · rw [if_neg h, Nat.div_lt_iff_lt_mul (by omega)]
      omega
  · obtain ⟨k3, k4, k5⟩ := k3 hlt
    rw [Nat.mod_eq_of_lt k3] at e2
    rw [e2, e3]
    unfold esq
    by_cases h : D * 2 ^ s / P ≤ R * 2 ^ s / (P * 18446744073709551616)
    · rw [if_pos h]
      exact k4 h
    · rw [if_neg h]
      have e : R * 2 ^ s / (P * 18446744073709551616) * 18446744073709551616 + R * 2 ^ s / P % 18446744073709551616 = R * 2 ^ s / P := by rw [← hUU]; exact Nat.div_add_mod' _ _
      rw [e]
      exact (k5 (by omega)).2

set_option maxRecDepth 100000 in
set_option maxHeartbeats 4000000 in
theorem pestimate_any (vr vd : Value) (rl dl : List Nat) (m : Nat) (hr : All 18446744073709551616 rl) (hd : All 18446744073709551616 dl) (hdl : dl.length = m + 1) (hrl : rl.length = m + 2) (hx0 : ∀ h : m < dl.length, dl[m] ≠ 0) (hb : m ≤ 1048576) (w : World) (h1 : Rw .u64 w vr rl) (h2 : Rw .u64 w vd dl) :
    Calls Try.prog 23 #[vr, vd] w fun e w' => ∃ q : Nat, e = .returned (.int .u64 (q : Int)) ∧ (q < 18446744073709551616 ∧ (val 18446744073709551616 rl < val 18446744073709551616 dl * 18446744073709551616 → val 18446744073709551616 rl / val 18446744073709551616 dl ≤ q ∧ q ≤ val 18446744073709551616 rl / val 18446744073709551616 dl + 2)) ∧ Q w w' := by
  have hm : m < dl.length := by omega
  obtain ⟨x, hx⟩ : ∃ x, dl[m] = x := ⟨_, rfl⟩
  have hxp : 0 < x := by have := hx0 hm; omega
  obtain ⟨s, hs⟩ : ∃ s, 64 - Lib.bitLen x = s := ⟨_, rfl⟩
  obtain ⟨q1, q2, q3, q4, q5, q6, q7, q8⟩ := est_num rl dl m s x hr hd hdl (by omega) hm hx hxp hs
  have hbl := bl_le x q1
  have KL := Lib.hid (fun w => len_any x q1 w)
  have K1 := Lib.hid (fun w (h : Rw .u64 w vr rl) => pmoved_any vr rl (m + 1) s hr (by omega) q2 (by omega) w h)
  have K2 := Lib.hid (fun w (h : Rw .u64 w vr rl) => pmoved_any vr rl m s hr (by omega) q2 (by omega) w h)
  have K3 := Lib.hid (fun w (h : Rw .u64 w vd dl) => pmoved_any vd dl m s hd (by omega) q2 (by omega) w h)
  obtain ⟨V, hV⟩ : ∃ V, mvd dl m s = V := ⟨_, rfl⟩
  obtain ⟨U1, hU1⟩ : ∃ V, mvd rl (m + 1) s = V := ⟨_, rfl⟩
  obtain ⟨U0, hU0⟩ : ∃ V, mvd rl m s = V := ⟨_, rfl⟩
  rw [hV] at q3 q4 q7 q8 K3
  rw [hU1] at q5 q7 q8 K1
  rw [hU0] at q6 q7 q8 K2
  have KD := Lib.hid (fun w => div_any U1 U0 V q5 q6 q4 w)
  have H1 := Lib.hid h1
  have H2 := Lib.hid h2
  obtain ⟨A, c, rfl, _, _, _, hsx⟩ := h2
  obtain ⟨ad, rfl, hc⟩ := hsx.at_ hm
  rw [hx] at hc
  obtain ⟨t, ht⟩ : ∃ t, Lib.bitLen x = t := ⟨_, rfl⟩
  rw [ht] at KL hbl hs
  obtain ⟨N, hN⟩ : ∃ N, m + 1 = N := ⟨_, rfl⟩
  rw [hN] at K1 hdl
  rw [hdl] at H2 K3 ⊢
  have r1 : (N : Int) - 1 = (m : Int) := by omega
  have b1 : (0 : Int) ≤ (m : Int) ∧ (m : Int) < (N : Int) := by omega
  have r2 : (64 : Int) - (t : Int) = (s : Int) := by omega
  have tb : (t : Int) ≤ 64 := by omega
  have sb : (s : Int) ≤ 63 := by omega
  have nb : (N : Int) ≤ 1048577 := by omega
  obtain ⟨L, hL⟩ : ∃ L, rl.length = L := ⟨_, rfl⟩
  by_cases hge : V ≤ U1
  · have d1 : divQ U1 U0 V = 0 := by unfold divQ; rw [if_pos hge]
    have d2 : divR U1 U0 V = 0 := by unfold divR; rw [if_pos hge]
    have d3 : divE U1 V = 1 := by unfold divE; rw [if_neg (by omega), if_pos hge]
    have d4 : esq U1 U0 V = 18446744073709551615 := by unfold esq; rw [if_pos hge]
    rw [d1, d2, d3] at KD
    rw [d4] at q7 q8
    have HE := Lib.hid (And.intro q7 q8)
    clear q7 q8 q1 q2 q3 q4 q5 q6 hx hs hr hd hm hV hU1 hU0 hsx hx0 hxp ht hN hb d1 d2 d3 d4 hge hdl hL hrl
    go_enter Try.func23, Try.ntmps23
    go_wp2_with (first
      | (go_at_call 28; (with_reducible refine (KL.out _).mono ?_); rintro e w' ⟨rfl, rfl⟩)
      | (go_at_call 30; (with_reducible refine (K1.out _ H1.out).mono ?_); rintro e w' ⟨rfl, rfl⟩)
      | (go_at_call 30; (with_reducible refine (K2.out _ H1.out).mono ?_); rintro e w' ⟨rfl, rfl⟩)
      | (go_at_call 30; (with_reducible refine (K3.out _ H2.out).mono ?_); rintro e w' ⟨rfl, rfl⟩)
      | (go_at_call 29; (with_reducible refine (KD.out _).mono ?_); rintro e w' ⟨rfl, hq⟩))
    go_ret
    exact ⟨18446744073709551615, rfl, HE.out, hq⟩
  · have d1 : divQ U1 U0 V = esq U1 U0 V := by unfold divQ esq num; rw [if_neg hge, if_neg hge]
    have d3 : divE U1 V = 0 := by unfold divE; rw [if_neg (by omega), if_neg hge]
    rw [d1, d3] at KD
    have HE := Lib.hid (And.intro q7 q8)
    obtain ⟨q, hq⟩ : ∃ q, esq U1 U0 V = q := ⟨_, rfl⟩
    rw [hq] at KD HE
    obtain ⟨r, hr'⟩ : ∃ q, divR U1 U0 V = q := ⟨_, rfl⟩
    rw [hr'] at KD
    clear q7 q8 q1 q2 q3 q4 q5 q6 hx hs hr hd hm hV hU1 hU0 hsx hx0 hxp ht hN hb d1 d3 hge hdl hL hrl hq hr'
    go_enter Try.func23, Try.ntmps23
    go_wp2_with (first
      | (go_at_call 28; (with_reducible refine (KL.out _).mono ?_); rintro e w' ⟨rfl, rfl⟩)
      | (go_at_call 30; (with_reducible refine (K1.out _ H1.out).mono ?_); rintro e w' ⟨rfl, rfl⟩)
      | (go_at_call 30; (with_reducible refine (K2.out _ H1.out).mono ?_); rintro e w' ⟨rfl, rfl⟩)
      | (go_at_call 30; (with_reducible refine (K3.out _ H2.out).mono ?_); rintro e w' ⟨rfl, rfl⟩)
      | (go_at_call 29; (with_reducible refine (KD.out _).mono ?_); rintro e w' ⟨rfl, hq⟩))
    go_ret
    exact ⟨q, rfl, HE.out, hq⟩
end Go.Proofs.Ytdoohlehglakfaa
