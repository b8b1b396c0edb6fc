/-
  Package nat: Norm, Add, Scale, Len over numbers.
-/
import Derived.Test.YtdbmfbfdiadiaaaNatPj
import Derived.Test.YtdbmfbfdiadiaaaWordCl
namespace Go.Proofs.Ytdbmfbfdiadiaaa
open Go.RowKit
set_option linter.unusedVariables false

theorem trimN (W : World) (v : Value) (X : Nat) (h : Nu W v X) : Calls Try.prog 34 #[v] W (RwSame W (dig 18446744073709551616 X)) := by
  obtain ⟨l, h1, ha, hl, hx⟩ := h
  have := ptrim_any v l ha (by omega) W h1
  rwa [hx] at this
theorem nu_len {W : World} {v : Value} {X : Nat} (h : Nu W v X) : (dig 18446744073709551616 X).length < 1048576 := by
  obtain ⟨l, h1, ha, hl, hx⟩ := h
  have := dig_len_le 18446744073709551616 (by decide) l ha
  rw [hx] at this
  omega

set_option maxRecDepth 100000 in
theorem pNorm : CNorm := by
  intro W v X hv
  have hln := (nu_len hv)
  have KT := Lib.hid (trimN W v X hv)
  have KW := Lib.hid (fun v2 (h : Rw .u64 W v2 (dig 18446744073709551616 X)) => pwidened_any v2 _ _ (Nat.le_refl _) (by omega) W h)
  obtain ⟨l, hl⟩ : ∃ l, dig 18446744073709551616 X = l := ⟨_, rfl⟩
  rw [hl] at KT KW hln ⊢
  have HL := Lib.hid hln
  clear hl hln
  go_enter Try.func17, Try.ntmps17
  go_wp2_with (first
    | (go_at_call 34; refine KT.out.mono ?_; rintro e w' ⟨v2, rfl, rfl, hv2⟩; have HV := Lib.hid hv2; obtain ⟨A, c, rfl, _⟩ := hv2)
    | (go_at_call 38; refine (KW.out _ HV.out).mono ?_; rintro e w' ⟨rfl, hbk, hbl, hsz⟩))
  go_ret
  exact RwEnd.of (hbk.rw (n := l.length) (by simp) (by unfold maxLen; have := HL.out; omega)) hbl (by simp)

set_option maxRecDepth 100000 in
set_option maxHeartbeats 1000000 in
theorem pAdd : CAdd := by
  intro W v u X Y hv hu
  have h1 := (nu_len hv)
  have h2 := (nu_len hu)
  have a1 := all_dig 18446744073709551616 (by decide) X
  have a2 := all_dig 18446744073709551616 (by decide) Y
  have KT := Lib.hid (trimN W v X hv)
  have KU := Lib.hid (trimN W u Y hu)
  have KM := Lib.hid (fun v2 u2 (h : Rw .u64 W v2 (dig 18446744073709551616 X)) (h' : Rw .u64 W u2 (dig 18446744073709551616 Y)) =>
    pmerged_any 39 (max (dig 18446744073709551616 X).length (dig 18446744073709551616 Y).length + 1) addS addC _ add_nx v2 u2 _ _ a1 (by omega) (by omega) h2 (getD_lt a2) (wds_add _ a2) W h h')
  rw [add_made _ _ a1 a2 _ (by omega) (by omega), val_dig _ (by decide), val_dig _ (by decide)] at KM
  obtain ⟨l, hl⟩ : ∃ l, dig 18446744073709551616 X = l := ⟨_, rfl⟩
  obtain ⟨m, hm⟩ : ∃ l, dig 18446744073709551616 Y = l := ⟨_, rfl⟩
  rw [hl] at KT KM h1
  rw [hm] at KU KM h2
  have e1 : max (l.length : Int) (m.length : Int) + 1 = ((max l.length m.length + 1 : Nat) : Int) := by omega
  have e2 : max l.length m.length + 1 ≤ 1048576 := by omega
  clear hl hm a1 a2 hv hu
  go_enter Try.func19, Try.ntmps19
  go_wp2_with (first
    | (go_at_call 34; (with_reducible refine KT.out.mono ?_); rintro e w' ⟨v2, rfl, rfl, hv2⟩; have HV := Lib.hid hv2; obtain ⟨A, c, rfl, _⟩ := hv2)
    | (go_at_call 34; (with_reducible refine KU.out.mono ?_); rintro e w' ⟨u2, rfl, rfl, hu2⟩; have HU := Lib.hid hu2; obtain ⟨B, d, rfl, _⟩ := hu2)
    | (go_at_call 35; refine (KM.out _ _ HV.out HU.out).mono ?_; rintro e w' ⟨v3, rfl, hv3, hb3⟩; have HV3 := Lib.hid hv3; have HB3 := Lib.hid hb3; clear hv3 hb3))
  go_ret
  exact RwEnd.mk HV3.out HB3.out

set_option maxRecDepth 100000 in
set_option maxHeartbeats 1000000 in
theorem pScale : CScale := by
  intro W v X y hv hy
  have h1 := (nu_len hv)
  have a1 := all_dig 18446744073709551616 (by decide) X
  have KT := Lib.hid (trimN W v X hv)
  have KM := Lib.hid (fun v2 (h : Rw .u64 W v2 (dig 18446744073709551616 X)) => pspread_any 42 y tiF tiG _ times_nx v2 _ a1 h1 hy (wds_times _ a1 y hy) W h)
  rw [times_made _ a1 y hy, val_dig _ (by decide)] at KM
  clear a1 hv h1 hy
  go_enter Try.func21, Try.ntmps21
  go_wp2_with (first
    | (go_at_call 34; (with_reducible refine KT.out.mono ?_); rintro e w' ⟨v2, rfl, rfl, hv2⟩; have HV := Lib.hid hv2; clear hv2)
    | (go_at_call 41; refine (KM.out _ HV.out).mono ?_; rintro e w' ⟨v3, rfl, hv3, hb3⟩; have HV3 := Lib.hid hv3; have HB3 := Lib.hid hb3; clear hv3 hb3))
  go_ret
  exact RwEnd.mk HV3.out HB3.out

set_option maxRecDepth 100000 in
set_option maxHeartbeats 1000000 in
theorem pLen : CLen := by
  intro W v X hv
  have h1 := (nu_len hv)
  have KT := Lib.hid (trimN W v X hv)
  rcases Nat.eq_zero_or_pos (dig 18446744073709551616 X).length with h0 | h0
  · have e0 : dig 18446744073709551616 X = [] := List.length_eq_zero_iff.1 h0
    have eX : X = 0 := by rw [← val_dig 18446744073709551616 (by decide) X, e0]; rfl
    have eb : blen X = 0 := by rw [eX]; rfl
    rw [e0] at KT
    rw [eb]
    clear eb eX e0 h0 h1 hv
    go_enter Try.func25, Try.ntmps25
    go_wp2_with (go_at_call 34; (with_reducible refine KT.out.mono ?_); rintro e w' ⟨v2, rfl, rfl, hv2⟩; obtain ⟨A, c, rfl, _⟩ := hv2)
    go_ret
    exact ⟨rfl, Bl.refl _⟩
  · obtain ⟨n, hn⟩ : ∃ n, (dig 18446744073709551616 X).length = n + 1 := ⟨(dig 18446744073709551616 X).length - 1, by omega⟩
    obtain ⟨x, hx⟩ : ∃ x, X / 18446744073709551616 ^ n = x := ⟨_, rfl⟩
    obtain ⟨g1, g2, g3⟩ := blen_top X n hn x hx
    have hget : (dig 18446744073709551616 X)[n]? = some x := by rw [List.getElem?_eq_getElem (by omega), dig_get _ (by decide), hx, Nat.mod_eq_of_lt g2]
    have KL := Lib.hid (fun w => len_any x g2 w)
    have hbl := Lib.bitLen_le x 64 (by omega) g2
    obtain ⟨l, hl⟩ : ∃ l, dig 18446744073709551616 X = l := ⟨_, rfl⟩
    rw [hl] at hn h1 h0 hget KT
    have HG : Hid (∀ h : n < l.length, l[n]'h = x) := fun h => (List.getElem?_eq_some_iff.1 hget).2
    have HN := Lib.hid hn
    obtain ⟨b, hb⟩ : ∃ b, Lib.bitLen x = b := ⟨_, rfl⟩
    rw [hb] at KL hbl g3
    obtain ⟨r, hr⟩ : ∃ r, blen X = r := ⟨_, rfl⟩
    rw [hr] at g3 ⊢
    have b1 : (0 : Int) ≤ (n : Int) ∧ (n : Int) < ((n + 1 : Nat) : Int) := by omega
    have r1 : ((n + 1 : Nat) : Int) - 1 = (n : Int) := by omega
    have r2 : (64 : Int) * (n : Int) + (b : Int) = (r : Int) := by omega
    have i1 : (n : Int) ≤ 1048576 := by omega
    have n1 : (((n + 1 : Nat) : Int) == 0) = false := by rw [beq_eq_false_iff_ne]; omega
    have i2 : (b : Int) ≤ 64 := by omega
    obtain ⟨N, hN⟩ : ∃ N, n + 1 = N := ⟨_, rfl⟩
    rw [hN] at b1 r1 n1
    have HNN := Lib.hid hN
    clear hl hb hr hx hget hn h1 h0 g1 g2 g3 hv hbl hN
    go_enter Try.func25, Try.ntmps25
    go_wp2_with (first
      | (go_at_call 34; (with_reducible refine KT.out.mono ?_); rintro e w' ⟨v2, rfl, rfl, hv2⟩; have HV := Lib.hid hv2; obtain ⟨A, c, rfl, hc, hm, hA0, hA⟩ := hv2; obtain ⟨ad, rfl, hcell⟩ := hA.at_ (i := n) (by rw [HN.out]; omega); rw [HG.out _] at hcell; rw [HN.out, HNN.out]; clear hA hA0 hc hm)
      | (go_at_call 46; (with_reducible refine (KL.out _).mono ?_); rintro e w' ⟨rfl, rfl⟩))
    go_ret
    exact ⟨rfl, Bl.refl _⟩
end Go.Proofs.Ytdbmfbfdiadiaaa
