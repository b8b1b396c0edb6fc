/-
  Package quot: Guess, over numbers.
-/
import Derived.Test.YtfmkbeffhdphfaaPk30
import Derived.Test.YtfmkbeffhdphfaaPk35
import Derived.Test.YtfmkbeffhdphfaaPk36
namespace Go.Proofs.Ytfmkbeffhdphfaa
open Go.RowKit
set_option linter.unusedVariables false
set_option linter.unusedSimpArgs false

/-- A quotient of one figure. -/
def gsN (A D : Nat) : Nat := if D = 0 then 0 else if D * 18446744073709551616 ≤ A then 18446744073709551615 else A / D

set_option maxRecDepth 100000 in
set_option maxHeartbeats 4000000 in
theorem pGuess (W : World) (va vd : Value) (A D ja jd : Nat) (ha : Nu W va A) (hd : Nu W vd D) (hsa : Sz ja A) (hsd : Sz jd D) (hja : ja < 1048575) (hjd : jd < 1048575) :
    Calls Try.prog 18 #[va, vd] W fun e w => e = .returned (.int .u64 ((gsN A D : Nat) : Int)) ∧ Bl W w := by
  have KA := Lib.hid (pNorm W va A ha)
  have KD := Lib.hid (fun W' (g : Bl W W') => pNorm W' vd D (hd.bl g))
  by_cases hD0 : D = 0
  · subst hD0
    have eg : gsN A 0 = 0 := by unfold gsN; rw [if_pos rfl]
    rw [eg]
    rw [dig_zero] at KD
    clear ha hd hsa hsd hja hjd eg
    go_enter Try.func18, Try.ntmps18
    go_wp2_with (first
      | (go_at_call 28; (with_reducible refine KA.out.mono ?_); rintro e w1 ⟨v1, rfl, hr1, hb1⟩; have HB1 := Lib.hid hb1; clear hr1 hb1)
      | (go_at_call 28; (with_reducible refine (KD.out _ HB1.out).mono ?_); rintro e w2 ⟨v2, rfl, hr2, hb2⟩; obtain ⟨A2, k2, e2⟩ := rw_shape hr2 (show ([] : List Nat).length = 0 from rfl); subst e2; have HB2 := Lib.hid (HB1.out.trans hb2); clear hr2 hb2))
    go_ret
    exact ⟨rfl, HB2.out⟩
  · have hDp : 0 < D := Nat.pos_of_ne_zero hD0
    have lA := dig_len_of_lt 18446744073709551616 (by decide) A ja hsa
    have lD := dig_len_of_lt 18446744073709551616 (by decide) D jd hsd
    have hdall := all_dig 18446744073709551616 (by decide) D
    have hdval := val_dig 18446744073709551616 (by decide) D
    have hdnm := nm_dig 18446744073709551616 (by decide) D
    have haall := all_dig 18446744073709551616 (by decide) A
    have haval := val_dig 18446744073709551616 (by decide) A
    have hdp := dig_len_pos 18446744073709551616 (by decide) D hDp
    have hlenA : A < D * 18446744073709551616 → (dig 18446744073709551616 A).length ≤ (dig 18446744073709551616 D).length + 1 := fun h => by
      refine dig_len_of_lt _ (by decide) _ _ ?_
      rw [Nat.pow_succ]
      exact Nat.lt_of_lt_of_le h (Nat.mul_le_mul_right _ (Nat.le_of_lt (dig_lt _ (by decide) D)))
    have KS := Lib.hid (fun W' v' (h : Nu W' v' A) => pShr W' v' A 64 h (by decide) (by decide))
    rw [show (64 : Int).toNat = 64 from rfl] at KS
    have hsh : Sz ja (A / 2 ^ 64) := hsa.le (Nat.div_le_self _ _)
    have KC := Lib.hid (fun W' v' u' (h : Nu W' v' (A / 2 ^ 64)) (h' : Nu W' u' D) => pCmp W' v' u' (A / 2 ^ 64) D h h')
    have HSH := Lib.hid hsh
    have HSA := Lib.hid hsa
    have HSD := Lib.hid hsd
    have HJA := Lib.hid hja
    have HJD := Lib.hid hjd
    have hcz : D * 18446744073709551616 ≤ A ↔ D ≤ A / 2 ^ 64 := by
      rw [Nat.le_div_iff_mul_le (Nat.two_pow_pos 64)]
    obtain ⟨l, el⟩ : ∃ l, dig 18446744073709551616 A = l := ⟨_, rfl⟩
    obtain ⟨d, ed⟩ : ∃ l, dig 18446744073709551616 D = l := ⟨_, rfl⟩
    have NUA := Lib.hid (fun W' v' (h : Rw .u64 W' v' l) => Nu.dig (el ▸ h) hsa (by omega))
    have NUD := Lib.hid (fun W' v' (h : Rw .u64 W' v' d) => Nu.dig (ed ▸ h) hsd (by omega))
    rw [el] at KA lA haall haval hlenA
    rw [ed] at KD lD hdall hdval hdnm hdp hlenA
    obtain ⟨n, hn⟩ : ∃ n, d.length = n := ⟨_, rfl⟩
    obtain ⟨j, hj⟩ : ∃ n, l.length = n := ⟨_, rfl⟩
    obtain ⟨m, hm⟩ : ∃ m, n = m + 1 := ⟨n - 1, by omega⟩
    have HN := Lib.hid hn
    have HJ := Lib.hid hj
    have n0 : ((n : Int) == 0) = false := by rw [beq_eq_false_iff_ne]; omega
    have nb : (n : Int) ≤ 1048576 := by omega
    by_cases hge : D * 18446744073709551616 ≤ A
    · have eg : gsN A D = 18446744073709551615 := by unfold gsN; rw [if_neg hD0, if_pos hge]
      rw [eg]
      obtain ⟨z, ez⟩ : ∃ z, cmpi (A / 2 ^ 64) D = z := ⟨_, rfl⟩
      have hz : 0 ≤ z := by
        rw [← ez]
        have := hcz.1 hge
        unfold cmpi
        rw [if_neg (by omega)]
        split <;> decide
      rw [ez] at KC
      have z1 : decide ((0 : Int) ≤ z) = true := decide_eq_true hz
      have z2 : decide (z ≥ 0) = true := decide_eq_true hz
      clear ha hd hsa hsd hja hjd eg lA lD hdall hdval hdnm haall haval hdp hlenA hsh hcz el ed hn hj hm ez hz hge hD0 hDp
      go_enter Try.func18, Try.ntmps18
      go_wp2_with (first
        | (go_at_call 28; (with_reducible refine KA.out.mono ?_); rintro e w1 ⟨v1, rfl, hr1, hb1⟩; have HR1 := Lib.hid hr1; have HB1 := Lib.hid hb1; clear hr1 hb1)
        | (go_at_call 28; (with_reducible refine (KD.out _ HB1.out).mono ?_); rintro e w2 ⟨v2, rfl, hr2, hb2⟩; obtain ⟨A2, k2, e2⟩ := rw_shape hr2 HN.out; subst e2; have HR2 := Lib.hid hr2; have HR1' := Lib.hid (HR1.out.bl hb2); have HB2 := Lib.hid (HB1.out.trans hb2); clear hr2 hb2)
        | (go_at_call 38; (with_reducible refine (KS.out _ _ (NUA.out _ _ HR1'.out)).mono ?_); rintro e w3 ⟨v3, rfl, hr3, hb3⟩; have N3 := Lib.hid (Nu.dig hr3 HSH.out (Nat.lt_trans HJA.out (by decide))); have HR2' := Lib.hid (HR2.out.bl hb3); have HB3 := Lib.hid (HB2.out.trans hb3); clear hr3 hb3)
        | (go_at_call 37; (with_reducible refine (KC.out _ _ _ N3.out (NUD.out _ _ HR2'.out)).mono ?_); rintro e w4 ⟨rfl, hb4⟩; have HB4 := Lib.hid (HB3.out.trans hb4); clear hb4))
      go_ret
      exact ⟨rfl, HB4.out⟩
    · have eg : gsN A D = A / D := by unfold gsN; rw [if_neg hD0, if_neg hge]
      rw [eg]
      have hlt : A < D * 18446744073709551616 := by omega
      have hjn := hlenA hlt
      obtain ⟨z, ez⟩ : ∃ z, cmpi (A / 2 ^ 64) D = z := ⟨_, rfl⟩
      have hz : z = -1 := by
        rw [← ez]
        have : ¬ D ≤ A / 2 ^ 64 := fun h => hge (hcz.2 h)
        unfold cmpi
        rw [if_pos (by omega)]
      rw [ez] at KC
      have z1 : decide ((0 : Int) ≤ z) = false := decide_eq_false (by omega)
      have z2 : decide (z ≥ 0) = false := decide_eq_false (by omega)
      obtain ⟨L, hL⟩ : ∃ L, m + 2 = L := ⟨_, rfl⟩
      have rL : (n : Int) + 1 = (L : Int) := by omega
      have KW := Lib.hid (fun W' v' (h : Rw .u64 W' v' l) => pqwidened_any v' l L (by omega) (by omega) W' h)
      have hrow : All 18446744073709551616 (l ++ List.replicate (L - l.length) 0) := all_append haall (fun i hi => by rw [List.getElem_replicate]; decide)
      have hrl : (l ++ List.replicate (L - l.length) 0).length = m + 2 := by simp; omega
      have hwin : win (l ++ List.replicate (L - l.length) 0) 0 (m + 2) = A := by
        unfold win
        rw [List.drop_zero, List.take_of_length_le (by omega), val_append, val_zeros, Nat.mul_zero, Nat.add_zero, haval]
      have KT := Lib.hid (fun w5 w6 v2 (h2 : Rw .u64 w5 v2 d) (hb : Bl w5 w6) (hk : Bk .u64 23 w6 w5.heap.size (l ++ List.replicate (L - l.length) 0)) =>
        (ptake_any w5 w6 w5.heap.size 0 (m + 2) m v2 d (l ++ List.replicate (L - l.length) 0) A D hb (Nat.le_refl _) hk h2 hdall hrow (by omega) (fun h => by
          have := hdnm (List.length_pos_iff.1 (by omega))
          rw [List.getLast_eq_getElem] at this
          have e : d.length - 1 = m := by omega
          simpa only [e] using this) (by omega) (by omega) (Nat.le_refl _) (by unfold maxLen; omega) hdval hwin hDp).mono (R' := fun (e : Ending) (w : World) => e = .returned (.int .u64 ((A / D : Nat) : Int)) ∧ Bl w5 w) (fun e w ⟨out, q, h1, h3, h4, h5, h6⟩ => ⟨by rw [h1, (h4.num hlt).1], h5⟩))
      rw [hL] at KT
      have lb : (L : Int) ≤ 1048577 := by omega
      clear ha hd hsa hsd hja hjd eg lA lD hdall hdval hdnm haall haval hdp hlenA hsh hcz el ed hn hj hm ez hz hge hD0 hDp hlt hjn hL hrow hrl hwin
      go_enter Try.func18, Try.ntmps18
      go_wp2_with (first
        | (go_at_call 28; (with_reducible refine KA.out.mono ?_); rintro e w1 ⟨v1, rfl, hr1, hb1⟩; have HR1 := Lib.hid hr1; have HB1 := Lib.hid hb1; clear hr1 hb1)
        | (go_at_call 28; (with_reducible refine (KD.out _ HB1.out).mono ?_); rintro e w2 ⟨v2, rfl, hr2, hb2⟩; obtain ⟨A2, k2, e2⟩ := rw_shape hr2 HN.out; subst e2; have HR2 := Lib.hid hr2; have HR1' := Lib.hid (HR1.out.bl hb2); have HB2 := Lib.hid (HB1.out.trans hb2); clear hr2 hb2)
        | (go_at_call 38; (with_reducible refine (KS.out _ _ (NUA.out _ _ HR1'.out)).mono ?_); rintro e w3 ⟨v3, rfl, hr3, hb3⟩; have N3 := Lib.hid (Nu.dig hr3 HSH.out (Nat.lt_trans HJA.out (by decide))); have HR2' := Lib.hid (HR2.out.bl hb3); have HR3 := Lib.hid (HR1'.out.bl hb3); have HB3 := Lib.hid (HB2.out.trans hb3); clear hr3 hb3)
        | (go_at_call 37; (with_reducible refine (KC.out _ _ _ N3.out (NUD.out _ _ HR2'.out)).mono ?_); rintro e w4 ⟨rfl, hb4⟩; have HB4 := Lib.hid (HB3.out.trans hb4); have HR4 := Lib.hid (HR3.out.bl hb4); have HD4 := Lib.hid (HR2'.out.bl hb4); clear hb4)
        | (go_at_call 29; (with_reducible refine (KW.out _ _ HR4.out).mono ?_); rintro e w5 ⟨rfl, hk5, hb5, hs5⟩; have HK5 := Lib.hid hk5; have HB5 := Lib.hid hb5; clear hk5 hb5 hs5)
        | (go_at_call 32; (with_reducible refine (KT.out _ _ _ HD4.out HB5.out HK5.out).mono ?_); rintro e w6 ⟨rfl, hb6⟩; have HB6 := Lib.hid (HB4.out.trans hb6); clear hb6))
      go_ret
      exact ⟨rfl, HB6.out⟩
end Go.Proofs.Ytfmkbeffhdphfaa
