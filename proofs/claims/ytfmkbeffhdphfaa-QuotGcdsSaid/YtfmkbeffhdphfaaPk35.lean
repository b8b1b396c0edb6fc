/-
  Package nat: Shr over numbers.
-/
import Derived.Test.YtfmkbeffhdphfaaPk34
namespace Go.Proofs.Ytfmkbeffhdphfaa
open Go.RowKit
set_option linter.unusedVariables false
set_option linter.unusedSimpArgs false

/-- A slice from place j on. -/
theorem src_drop {k : IntKind} {w : World} {ad : Addr} {l : List Nat} (h : Src k w (some ad) l) (j : Nat) : Src k w (some (ad.add j)) (l.drop j) := by
  intro hl
  rw [List.length_drop] at hl
  obtain ⟨ad', e, hb, hx⟩ := h (by omega)
  cases e
  refine ⟨_, rfl, by rw [blk_add]; exact hb, fun i hi => ?_⟩
  rw [List.length_drop] at hi
  rw [List.getElem_drop, show (ad.add j).add i = ad.add (j + i) from Addr.add_add _ _ _]
  exact hx (j + i) (by omega)
theorem rw_drop {k : IntKind} {w : World} {ad : Addr} {L c : Nat} {l : List Nat} (h : Rw k w (.slice (some ad) L c) l) (j : Nat) : Rw k w (.slice (some (ad.add j)) (L - j) (c - j)) (l.drop j) := by
  obtain ⟨A', c', e, h1, h2, h3, h4⟩ := h
  cases e
  refine ⟨_, _, by rw [List.length_drop], by rw [List.length_drop]; omega, by omega, (fun h => by cases h), src_drop h4 j⟩
theorem shr_nil (X n : Nat) (h : (dig 18446744073709551616 X).length ≤ n / 64) : X / 2 ^ n = 0 := by
  refine Nat.div_eq_of_lt ?_
  rw [two_n n]
  exact Nat.lt_of_lt_of_le (dig_lt _ (by decide) X) (Nat.le_trans (Nat.pow_le_pow_right (by decide) h) (Nat.le_mul_of_pos_right _ (Nat.two_pow_pos _)))
theorem shr_one (X n : Nat) : X / 18446744073709551616 ^ (n / 64) * 2 ^ (64 - n % 64) / 18446744073709551616 ^ 1 = X / 2 ^ n := by
  rw [Nat.pow_one, two_n n, ← Nat.div_div_eq_div_mul, ← pq64 (n % 64) (by omega), Nat.mul_comm (2 ^ (n % 64)), Nat.mul_comm _ (2 ^ (64 - n % 64)), Nat.mul_div_mul_left _ _ (Nat.two_pow_pos _)]

set_option maxRecDepth 100000 in
set_option maxHeartbeats 2000000 in
theorem pShr : CShr := by
  intro W v X n hv hn1 hn2
  have h1 := nu_len hv
  have KP := Lib.hid (fun w => pplace_any n hn1 hn2 w)
  have KT := Lib.hid (trimN W v X hv)
  have hu : n.toNat / 64 ≤ 524288 := by omega
  by_cases hle : (dig 18446744073709551616 X).length ≤ n.toNat / 64
  · rw [shr_nil X n.toNat hle, dig_zero]
    obtain ⟨l, hl⟩ : ∃ l, dig 18446744073709551616 X = l := ⟨_, rfl⟩
    rw [hl] at KT hle h1
    obtain ⟨L, hL⟩ : ∃ k, l.length = k := ⟨_, rfl⟩
    have HL := Lib.hid hL
    rw [hL] at hle h1
    obtain ⟨s, hs⟩ : ∃ s, n.toNat % 64 = s := ⟨_, rfl⟩
    obtain ⟨up, hup⟩ : ∃ s, n.toNat / 64 = s := ⟨_, rfl⟩
    rw [hs, hup] at KP
    rw [hup] at hle hu
    have d1 : decide (L ≤ up) = true := decide_eq_true hle
    clear hs hup hl hL hv hle
    go_enter Try.func38, Try.ntmps38
    go_wp2_with (first
      | (go_at_call 57; (with_reducible refine (KP.out _).mono ?_); rintro e w' ⟨rfl, rfl⟩)
      | (go_at_call 46; (with_reducible refine KT.out.mono ?_); rintro e w' ⟨v2, rfl, rfl, hv2⟩; obtain ⟨A, c, rfl, _⟩ := hv2; rw [HL.out]))
    go_ret
    exact RwEnd.mk (Rw.nil _ _) (Bl.refl _)
  · have hgt : n.toNat / 64 < (dig 18446744073709551616 X).length := by omega
    have hd := dig_drop 18446744073709551616 (by decide) (n.toNat / 64) X
    have hdl : (dig 18446744073709551616 (X / 18446744073709551616 ^ (n.toNat / 64))).length = (dig 18446744073709551616 X).length - n.toNat / 64 := by rw [← hd, List.length_drop]
    have KR := Lib.hid (fun v2 (h : Rw .u64 W v2 (dig 18446744073709551616 (X / 18446744073709551616 ^ (n.toNat / 64)))) => raiseN W v2 _ (64 - n.toNat % 64) (by omega) h (by omega))
    have hX' : 0 < X / 18446744073709551616 ^ (n.toNat / 64) := by
      rcases Nat.eq_zero_or_pos (X / 18446744073709551616 ^ (n.toNat / 64)) with h | h
      · rw [h, dig_zero] at hdl; simp at hdl; omega
      · exact h
    have hkp := dig_len_pos 18446744073709551616 (by decide) _ (Nat.mul_pos hX' (Nat.two_pow_pos (64 - n.toNat % 64)))
    have hk := raised_len (X / 18446744073709551616 ^ (n.toNat / 64)) (64 - n.toNat % 64) (by omega) (by omega)
    have HE := Lib.hid (dig_drop 18446744073709551616 (by decide) 1 (X / 18446744073709551616 ^ (n.toNat / 64) * 2 ^ (64 - n.toNat % 64)))
    rw [shr_one] at HE
    obtain ⟨s, hs⟩ : ∃ s, n.toNat % 64 = s := ⟨_, rfl⟩
    obtain ⟨up, hup⟩ : ∃ s, n.toNat / 64 = s := ⟨_, rfl⟩
    rw [hs, hup] at KP KR hk hkp HE
    rw [hup] at hgt hd hdl hu
    have r1 : (64 : Int) - (s : Int) = ((64 - s : Nat) : Int) := by omega
    obtain ⟨t, ht⟩ : ∃ t, 64 - s = t := ⟨_, rfl⟩
    rw [ht] at r1 KR hk hkp HE
    have r2 : IntKind.u64.wrap (t : Int) = (t : Int) := by rw [IntKind.wrap_u64]; omega
    have r3 : (t : Int) ≤ 64 := by omega
    have r4 : (s : Int) ≤ 64 := by omega
    obtain ⟨l, hl⟩ : ∃ l, dig 18446744073709551616 X = l := ⟨_, rfl⟩
    rw [hl] at KT hgt h1 hd hdl
    obtain ⟨L, hL⟩ : ∃ k, l.length = k := ⟨_, rfl⟩
    have HL := Lib.hid hL
    rw [hL] at hgt h1 hdl
    have HD := Lib.hid hd
    obtain ⟨m, hm⟩ : ∃ m, dig 18446744073709551616 (X / 18446744073709551616 ^ up * 2 ^ t) = m := ⟨_, rfl⟩
    rw [hm] at KR hkp hk HE
    obtain ⟨k, hkk⟩ : ∃ k, m.length = k := ⟨_, rfl⟩
    rw [hkk] at hkp hk
    have HK := Lib.hid hkk
    have d1 : decide (L ≤ up) = false := decide_eq_false (by omega)
    have n1 : (up : Int) < (L : Int) := by omega
    have n2 : (0 : Int) ≤ (up : Int) ∧ (up : Int) ≤ (L : Int) := by omega
    have n3 : (0 : Int) ≤ 1 ∧ (1 : Int) ≤ (k : Int) := by omega
    have n4 : (L : Int) ≤ 1048576 := by omega
    have n5 : (k : Int) ≤ 1048577 := by omega
    have n6 : ¬ L = up := by omega
    have HKP := Lib.hid hkp
    have HKK := Lib.hid hk
    have HGT := Lib.hid hgt
    have HDL := Lib.hid hdl
    clear hs hup hl hL hv hle hgt hm hkk hk hkp hd hdl ht hX'
    go_enter Try.func38, Try.ntmps38
    go_wp2_with (first
      | (go_at_call 57; (with_reducible refine (KP.out _).mono ?_); rintro e w' ⟨rfl, rfl⟩)
      | (go_at_call 46; (with_reducible refine KT.out.mono ?_); rintro e w' ⟨v2, rfl, rfl, hv2⟩; have HV := Lib.hid hv2; obtain ⟨A, c, rfl, hc, _, _, hA⟩ := hv2; obtain ⟨ad, rfl, _⟩ := hA (by rw [HL.out]; have := HGT.out; omega); rw [HL.out] at hc ⊢; have hci : (L : Int) ≤ (c : Int) := (by omega); have n7 : ¬ c = up := (by have := HGT.out; omega); have HW := Lib.hid (rw_drop HV.out up); rw [HD.out, HL.out] at HW; clear hA)
      | (go_at_call 58; refine (KR.out _ HW.out).mono ?_; rintro e w2 ⟨v3, rfl, hv3, hb3⟩; have HB3 := Lib.hid hb3; have HV3 := Lib.hid hv3; obtain ⟨A3, c3, rfl, hc3, _, _, hx3⟩ := hv3; obtain ⟨ad3, rfl, _⟩ := hx3 (by rw [HK.out]; exact HKP.out); rw [HK.out] at hc3 ⊢; have hci3 : (k : Int) ≤ (c3 : Int) := (by omega); have H3 := Lib.hid hc3; clear hb3 hx3))
    · rename_i h31
      have hk1 : k = 1 := by have := H3.out; have := HKP.out; omega
      have hm1 : m.drop 1 = [] := by rw [List.drop_eq_nil_iff, HK.out]; omega
      go_ret
      exact RwEnd.of (m := []) ⟨some ad3, 0, by rw [hk1]; rfl, Nat.le_refl _, by decide, (fun h => by cases h), Src.nil _ _ _⟩ HB3.out (hm1.symm.trans HE.out)
    · go_ret
      have h5 := rw_drop HV3.out 1
      rw [HK.out] at h5
      exact RwEnd.of h5 HB3.out HE.out
end Go.Proofs.Ytfmkbeffhdphfaa
