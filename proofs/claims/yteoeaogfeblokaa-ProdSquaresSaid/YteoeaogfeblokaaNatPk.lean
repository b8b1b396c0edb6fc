/-
  Package nat: Norm, Add, Scale over numbers.
-/
import Derived.Test.YteoeaogfeblokaaNatPj
namespace Go.Proofs.Yteoeaogfeblokaa
open Go.RowKit
set_option linter.unusedVariables false

theorem trimN (W : World) (v : Value) (X : Nat) (h : Nu W v X) : Calls Try.prog 41 #[v] W (RwSame W (dig 18446744073709551616 X)) := by
  obtain ⟨l, h1, ha, hl, hx⟩ := h
  have := ptrim_any v l ha (by omega) W h1
  rwa [hx] at this
theorem nu_len {W : World} {v : Value} {X : Nat} (h : Nu W v X) : (dig 18446744073709551616 X).length < 1048576 := by
  obtain ⟨l, h1, ha, hl, hx⟩ := h
  have := dig_len_le 18446744073709551616 (by decide) l ha
  rw [hx] at this
  omega

set_option maxRecDepth 100000 in
theorem pNorm : CNorm := by
  intro W v X hv
  have hln := (nu_len hv)
  have KT := Lib.hid (trimN W v X hv)
  have KW := Lib.hid (fun v2 (h : Rw .u64 W v2 (dig 18446744073709551616 X)) => pwidened_any v2 _ _ (Nat.le_refl _) (by omega) W h)
  obtain ⟨l, hl⟩ : ∃ l, dig 18446744073709551616 X = l := ⟨_, rfl⟩
  rw [hl] at KT KW hln ⊢
  have HL := Lib.hid hln
  clear hl hln
  go_enter Try.func30, Try.ntmps30
  go_wp2_with (first
    | (go_at_call 41; refine KT.out.mono ?_; rintro e w' ⟨v2, rfl, rfl, hv2⟩; have HV := Lib.hid hv2; obtain ⟨A, c, rfl, _⟩ := hv2)
    | (go_at_call 42; refine (KW.out _ HV.out).mono ?_; rintro e w' ⟨rfl, hbk, hbl, hsz⟩))
  go_ret
  exact RwEnd.of (hbk.rw (n := l.length) (by simp) (by unfold maxLen; have := HL.out; omega)) hbl (by simp)

set_option maxRecDepth 100000 in
set_option maxHeartbeats 1000000 in
theorem pAdd : CAdd := by
  intro W v u X Y hv hu
  have h1 := (nu_len hv)
  have h2 := (nu_len hu)
  have a1 := all_dig 18446744073709551616 (by decide) X
  have a2 := all_dig 18446744073709551616 (by decide) Y
  have KT := Lib.hid (trimN W v X hv)
  have KU := Lib.hid (trimN W u Y hu)
  have KM := Lib.hid (fun v2 u2 (h : Rw .u64 W v2 (dig 18446744073709551616 X)) (h' : Rw .u64 W u2 (dig 18446744073709551616 Y)) =>
    pmerged_any 43 (max (dig 18446744073709551616 X).length (dig 18446744073709551616 Y).length + 1) addS addC _ add_nx v2 u2 _ _ a1 (by omega) (by omega) h2 (getD_lt a2) (wds_add _ a2) W h h')
  rw [add_made _ _ a1 a2 _ (by omega) (by omega), val_dig _ (by decide), val_dig _ (by decide)] at KM
  obtain ⟨l, hl⟩ : ∃ l, dig 18446744073709551616 X = l := ⟨_, rfl⟩
  obtain ⟨m, hm⟩ : ∃ l, dig 18446744073709551616 Y = l := ⟨_, rfl⟩
  rw [hl] at KT KM h1
  rw [hm] at KU KM h2
  have e1 : max (l.length : Int) (m.length : Int) + 1 = ((max l.length m.length + 1 : Nat) : Int) := by omega
  have e2 : max l.length m.length + 1 ≤ 1048576 := by omega
  clear hl hm a1 a2 hv hu
  go_enter Try.func35, Try.ntmps35
  go_wp2_with (first
    | (go_at_call 41; (with_reducible refine KT.out.mono ?_); rintro e w' ⟨v2, rfl, rfl, hv2⟩; have HV := Lib.hid hv2; obtain ⟨A, c, rfl, _⟩ := hv2)
    | (go_at_call 41; (with_reducible refine KU.out.mono ?_); rintro e w' ⟨u2, rfl, rfl, hu2⟩; have HU := Lib.hid hu2; obtain ⟨B, d, rfl, _⟩ := hu2)
    | (go_at_call 47; refine (KM.out _ _ HV.out HU.out).mono ?_; rintro e w' ⟨v3, rfl, hv3, hb3⟩; have HV3 := Lib.hid hv3; have HB3 := Lib.hid hb3; clear hv3 hb3))
  go_ret
  exact RwEnd.mk HV3.out HB3.out

set_option maxRecDepth 100000 in
set_option maxHeartbeats 1000000 in
theorem pScale : CScale := by
  intro W v X y hv hy
  have h1 := (nu_len hv)
  have a1 := all_dig 18446744073709551616 (by decide) X
  have KT := Lib.hid (trimN W v X hv)
  have KM := Lib.hid (fun v2 (h : Rw .u64 W v2 (dig 18446744073709551616 X)) => pspread_any 51 y tiF tiG _ times_nx v2 _ a1 h1 hy (wds_times _ a1 y hy) W h)
  rw [times_made _ a1 y hy, val_dig _ (by decide)] at KM
  clear a1 hv h1 hy
  go_enter Try.func37, Try.ntmps37
  go_wp2_with (first
    | (go_at_call 41; (with_reducible refine KT.out.mono ?_); rintro e w' ⟨v2, rfl, rfl, hv2⟩; have HV := Lib.hid hv2; clear hv2)
    | (go_at_call 49; refine (KM.out _ HV.out).mono ?_; rintro e w' ⟨v3, rfl, hv3, hb3⟩; have HV3 := Lib.hid hv3; have HB3 := Lib.hid hb3; clear hv3 hb3))
  go_ret
  exact RwEnd.mk HV3.out HB3.out
end Go.Proofs.Yteoeaogfeblokaa
