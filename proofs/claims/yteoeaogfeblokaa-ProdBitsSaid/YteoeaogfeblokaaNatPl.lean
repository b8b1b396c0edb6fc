/-
  Package nat: Sub, Shl, Shr, Low over numbers.
-/
import Derived.Test.YteoeaogfeblokaaNatPm
namespace Go.Proofs.Yteoeaogfeblokaa
open Go.RowKit
set_option linter.unusedVariables false
set_option linter.unusedSimpArgs false

theorem nu_of_rw {W : World} {v : Value} {X : Nat} (h : Rw .u64 W v (dig 18446744073709551616 X)) (hl : (dig 18446744073709551616 X).length < 1048576) : Nu W v X := ⟨_, h, all_dig _ (by decide) X, hl, val_dig _ (by decide) X⟩
theorem dig_le_len {X Y : Nat} (h : Y ≤ X) : (dig 18446744073709551616 Y).length ≤ (dig 18446744073709551616 X).length :=
  dig_len_of_lt _ (by decide) Y _ (Nat.lt_of_le_of_lt h (dig_lt _ (by decide) X))

set_option maxRecDepth 100000 in
set_option maxHeartbeats 1000000 in
theorem pSub : CSub := by
  intro W v u X Y hv hu
  have h1 := nu_len hv
  have h2 := nu_len hu
  have a1 := all_dig 18446744073709551616 (by decide) X
  have a2 := all_dig 18446744073709551616 (by decide) Y
  have KT := Lib.hid (trimN W v X hv)
  have KU := Lib.hid (trimN W u Y hu)
  have KC := Lib.hid (fun v2 u2 (h : Rw .u64 W v2 (dig 18446744073709551616 X)) (h' : Rw .u64 W u2 (dig 18446744073709551616 Y)) => pCmp W v2 u2 X Y (nu_of_rw h h1) (nu_of_rw h' h2))
  by_cases hlt : X < Y
  · rw [if_pos hlt]
    rw [cmpi_lt hlt] at KC
    clear hlt a1 a2 hv hu
    go_enter Try.func44, Try.ntmps44
    go_wp2_with (first
      | (go_at_call 41; (with_reducible refine KT.out.mono ?_); rintro e w' ⟨v2, rfl, rfl, hv2⟩; have HV := Lib.hid hv2; obtain ⟨A, c, rfl, _⟩ := hv2)
      | (go_at_call 41; (with_reducible refine KU.out.mono ?_); rintro e w' ⟨u2, rfl, rfl, hu2⟩; have HU := Lib.hid hu2; obtain ⟨B, d, rfl, _⟩ := hu2)
      | (go_at_call 55; refine (KC.out _ _ HV.out HU.out).mono ?_; rintro e w' ⟨rfl, hb3⟩; have HB3 := Lib.hid hb3; clear hb3))
    go_ret2
    exact ⟨_, rfl, Rw.nil _ _, HB3.out⟩
  · rw [if_neg hlt]
    have hle : Y ≤ X := by omega
    have hml := dig_le_len hle
    have KM := Lib.hid (fun w v2 u2 (h : Rw .u64 w v2 (dig 18446744073709551616 X)) (h' : Rw .u64 w u2 (dig 18446744073709551616 Y)) =>
      pmerged_any 56 (dig 18446744073709551616 X).length subD subB _ sub_nx v2 u2 _ _ a1 (Nat.le_refl _) (by omega) h2 (getD_lt a2) (wds_sub _ a2) w h h')
    rw [sub_made _ _ a1 a2 (by rw [val_dig _ (by decide), val_dig _ (by decide)]; exact hle) _ rfl, val_dig _ (by decide), val_dig _ (by decide)] at KM
    obtain ⟨r, hr⟩ : ∃ r, cmpi X Y = r := ⟨_, rfl⟩
    have hr0 : decide (r < 0) = false := by
      rw [← hr]
      rcases Nat.lt_or_ge Y X with h | h
      · rw [cmpi_gt h]; rfl
      · rw [cmpi_eq (by omega)]; rfl
    rw [hr] at KC
    obtain ⟨l, hl⟩ : ∃ l, dig 18446744073709551616 X = l := ⟨_, rfl⟩
    obtain ⟨m, hm⟩ : ∃ l, dig 18446744073709551616 Y = l := ⟨_, rfl⟩
    rw [hl] at KT KM KC
    rw [hm] at KU KM KC
    clear hlt hle hml hl hm a1 a2 hv hu h1 h2 hr
    go_enter Try.func44, Try.ntmps44
    go_wp2_with (first
      | (go_at_call 41; (with_reducible refine KT.out.mono ?_); rintro e w' ⟨v2, rfl, rfl, hv2⟩; have HV := Lib.hid hv2; obtain ⟨A, c, rfl, _⟩ := hv2)
      | (go_at_call 41; (with_reducible refine KU.out.mono ?_); rintro e w' ⟨u2, rfl, rfl, hu2⟩; have HU := Lib.hid hu2; obtain ⟨B, d, rfl, _⟩ := hu2)
      | (go_at_call 55; refine (KC.out _ _ HV.out HU.out).mono ?_; rintro e w2 ⟨rfl, hb3⟩; have HB3 := Lib.hid hb3; clear hb3)
      | (go_at_call 47; refine (KM.out _ _ _ (HV.out.bl HB3.out) (HU.out.bl HB3.out)).mono ?_; rintro e w' ⟨v3, rfl, hv3, hb4⟩; have HV3 := Lib.hid hv3; have HB4 := Lib.hid hb4; clear hv3 hb4))
    go_ret2
    exact ⟨_, rfl, HV3.out, HB3.out.trans HB4.out⟩
end Go.Proofs.Yteoeaogfeblokaa
