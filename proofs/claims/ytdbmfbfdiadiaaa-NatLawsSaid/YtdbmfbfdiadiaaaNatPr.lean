/-
  Package nat: Low over numbers.
-/
import Derived.Test.YtdbmfbfdiadiaaaNatPq
import Derived.BigRegion
namespace Go.Proofs.Ytdbmfbfdiadiaaa
open Go.RowKit
set_option linter.unusedVariables false
set_option linter.unusedSimpArgs false

theorem rw_take {k : IntKind} {w : World} {A : Option Addr} {L c : Nat} {l : List Nat} (h : Rw k w (.slice A L c) l) (j : Nat) (hj : j ≤ L) (hA : A ≠ none) : Rw k w (.slice A j j) (l.take j) := by
  obtain ⟨A', c', e, h1, h2, h3, h4⟩ := h
  cases e
  exact (h4.take j).rw (by rw [List.length_take]; omega) (Nat.le_refl _) (by omega) (fun h => absurd h hA)
theorem low_all (X n : Nat) (h : (dig 18446744073709551616 X).length ≤ n / 64) : X % 2 ^ n = X := by
  refine Nat.mod_eq_of_lt ?_
  rw [two_n n]
  exact Nat.lt_of_lt_of_le (dig_lt _ (by decide) X) (Nat.le_trans (Nat.pow_le_pow_right (by decide) h) (Nat.le_mul_of_pos_right _ (Nat.two_pow_pos _)))
theorem low_made (X j s x : Nat) (hs : s ≤ 64) (hj : j < (dig 18446744073709551616 X).length) (hx : (dig 18446744073709551616 X)[j] = x) :
    val 18446744073709551616 ((dig 18446744073709551616 X).take j ++ [x % 2 ^ s]) = X % (18446744073709551616 ^ j * 2 ^ s) := by
  have ha := all_dig 18446744073709551616 (by decide) X
  have h1 := (val_take_drop 18446744073709551616 (by decide) _ ha j (by omega)).1
  rw [val_dig _ (by decide)] at h1
  rw [dig_get _ (by decide)] at hx
  rw [val_append, val_one, h1, List.length_take, Nat.min_eq_left (by omega), Nat.mod_mul, ← hx, Nat.mod_mod_of_dvd _ ⟨2 ^ (64 - s), (pq64 s hs).symm⟩]
theorem low_row (l : List Nat) (j u : Nat) (hj : j ≤ l.length) : (l.take j ++ List.replicate (j + 1 - (l.take j).length) 0).set j u = l.take j ++ [u] := by
  have e : (l.take j).length = j := by rw [List.length_take]; omega
  rw [e, show j + 1 - j = 1 by omega, List.set_append_right _ _ (by omega), e, Nat.sub_self]
  rfl
theorem and_mask (x s : Nat) (hx : x < 18446744073709551616) (hs : s < 64) : bits .and .u64 (x : Int) (IntKind.u64.wrap (IntKind.u64.wrap (2 ^ s) - 1)) = ((x % 2 ^ s : Nat) : Int) := by
  have h1 : 2 ^ s < 18446744073709551616 := by
    have e : (18446744073709551616 : Nat) = 2 ^ 64 := by decide
    rw [e]
    exact Nat.pow_lt_pow_right (by decide) hs
  have h2 := Nat.two_pow_pos s
  rw [pow_cast, wrapN _ h1, show ((2 ^ s : Nat) : Int) - 1 = ((2 ^ s - 1 : Nat) : Int) by omega, wrapN _ (by omega), bits_and_u64_nat _ _ hx (by omega), Nat.and_two_pow_sub_one_eq_mod]

set_option maxRecDepth 100000 in
set_option maxHeartbeats 2000000 in
theorem pLow : CLow := by
  intro W v X n hv hn1 hn2
  have h1 := nu_len hv
  have KP := Lib.hid (fun w => pplace_any n hn1 hn2 w)
  have KT := Lib.hid (trimN W v X hv)
  have hu : n.toNat / 64 ≤ 524288 := by omega
  by_cases hle : (dig 18446744073709551616 X).length ≤ n.toNat / 64
  · rw [low_all X n.toNat hle]
    have KW := Lib.hid (fun v2 (h : Rw .u64 W v2 (dig 18446744073709551616 X)) => pwidened_any v2 _ _ (Nat.le_refl _) (by omega) W h)
    obtain ⟨l, hl⟩ : ∃ l, dig 18446744073709551616 X = l := ⟨_, rfl⟩
    rw [hl] at KT KW hle h1 ⊢
    obtain ⟨L, hL⟩ : ∃ k, l.length = k := ⟨_, rfl⟩
    have HL := Lib.hid hL
    rw [hL] at hle h1 KW
    have H1 := Lib.hid h1
    obtain ⟨s, hs⟩ : ∃ s, n.toNat % 64 = s := ⟨_, rfl⟩
    obtain ⟨up, hup⟩ : ∃ s, n.toNat / 64 = s := ⟨_, rfl⟩
    rw [hs, hup] at KP
    rw [hup] at hle hu
    have d1 : decide (L ≤ up) = true := decide_eq_true hle
    clear hs hup hl hL hv hle h1
    go_enter Try.func30, Try.ntmps30
    go_wp2_with (first
      | (go_at_call 48; (with_reducible refine (KP.out _).mono ?_); rintro e w' ⟨rfl, rfl⟩)
      | (go_at_call 34; (with_reducible refine KT.out.mono ?_); rintro e w' ⟨v2, rfl, rfl, hv2⟩; have HV := Lib.hid hv2; obtain ⟨A, c, rfl, _⟩ := hv2; rw [HL.out] at HV ⊢)
      | (go_at_call 38; refine (KW.out _ HV.out).mono ?_; rintro e w' ⟨rfl, hbk, hbl, hsz⟩))
    go_ret
    exact RwEnd.of (hbk.rw (n := L) (by simp [HL.out]) (by unfold maxLen; have := H1.out; omega)) hbl (by simp)
  · have hgt : n.toNat / 64 < (dig 18446744073709551616 X).length := by omega
    have hsb : n.toNat % 64 < 64 := by omega
    obtain ⟨x, hx⟩ : ∃ x, (dig 18446744073709551616 X)[n.toNat / 64] = x := ⟨_, rfl⟩
    have hxl : x < 18446744073709551616 := by rw [← hx]; exact all_dig _ (by decide) X _ hgt
    have hmade := low_made X (n.toNat / 64) (n.toNat % 64) x (by omega) hgt hx
    rw [← two_n] at hmade
    have ha := all_dig 18446744073709551616 (by decide) X
    obtain ⟨s, hs⟩ : ∃ s, n.toNat % 64 = s := ⟨_, rfl⟩
    obtain ⟨up, hup⟩ : ∃ s, n.toNat / 64 = s := ⟨_, rfl⟩
    rw [hs] at hsb
    rw [hs, hup] at hmade
    rw [hup] at hgt hu
    have hx' : (dig 18446744073709551616 X)[up]? = some x := by
      subst hup
      rw [← hx]
      exact List.getElem?_eq_getElem hgt
    rw [hs, hup] at KP
    obtain ⟨l, hl⟩ : ∃ l, dig 18446744073709551616 X = l := ⟨_, rfl⟩
    rw [hl] at KT hgt h1 hmade hx' ha
    have hme := and_mask x s hxl hsb
    obtain ⟨u, hue⟩ : ∃ u, x % 2 ^ s = u := ⟨_, rfl⟩
    rw [hue] at hme hmade
    have hul : u < 18446744073709551616 := by rw [← hue]; exact Nat.lt_of_le_of_lt (Nat.mod_le _ _) hxl
    have hrow := low_row l up u (by omega)
    have KW := Lib.hid (fun A (h : Rw .u64 W (.slice A up up) (l.take up)) => pwidened_any (.slice A up up) _ (up + 1) (by rw [List.length_take]; omega) (by omega) W h)
    have KT2 := Lib.hid (fun w v2 (h : Rw .u64 w v2 (l.take up ++ [u])) => ptrim_any v2 _ (all_snoc (all_take ha up) hul) (by simp; omega) w h)
    rw [hmade] at KT2
    obtain ⟨L, hL⟩ : ∃ k, l.length = k := ⟨_, rfl⟩
    rw [hL] at hgt h1
    have HL := Lib.hid hL
    have HX : Hid (∀ h : up < l.length, l[up]'h = x) := fun h => (List.getElem?_eq_some_iff.1 hx').2
    obtain ⟨t, ht⟩ : ∃ t, up + 1 = t := ⟨_, rfl⟩
    rw [ht] at KW hrow
    have HT := Lib.hid ht
    have HROW := Lib.hid hrow
    have HU := Lib.hid hu
    have HG := Lib.hid hgt
    have r1 : (up : Int) + 1 = (t : Int) := by omega
    have d1 : decide (L ≤ up) = false := decide_eq_false (by omega)
    have n1 : (0 : Int) ≤ (up : Int) ∧ (up : Int) ≤ (L : Int) := by omega
    have n2 : (0 : Int) ≤ (up : Int) ∧ (up : Int) < (L : Int) := by omega
    have n3 : (0 : Int) ≤ (up : Int) ∧ (up : Int) < (t : Int) := by omega
    have n4 : (L : Int) ≤ 1048576 := by omega
    have n5 : (s : Int) ≤ 63 := by omega
    have n6 : (up : Int) ≤ 524288 := by omega
    clear hl hL hv hle hgt hx hx' ha hmade hs hup hul hue hrow ht hxl hu h1 hsb
    go_enter Try.func30, Try.ntmps30
    go_wp2_with (first
      | (go_at_call 48; (with_reducible refine (KP.out _).mono ?_); rintro e w' ⟨rfl, rfl⟩)
      | (go_at_call 34; (with_reducible refine KT.out.mono ?_); rintro e w' ⟨v2, rfl, rfl, hv2⟩; have HV := Lib.hid hv2; obtain ⟨A, c, rfl, hc, _, _, hA⟩ := hv2; obtain ⟨ad, rfl, hblk, hcx⟩ := hA (by rw [HL.out]; have := HG.out; omega); have hcell := hcx up (by rw [HL.out]; exact HG.out); rw [HX.out _] at hcell; rw [HL.out] at hc HV ⊢; have hci : (L : Int) ≤ (c : Int) := (by omega); have HW := Lib.hid (rw_take HV.out up (by have := HG.out; omega) (by simp)); clear hA hcx)
      | (go_at_call 38; refine (KW.out _ HW.out).mono ?_; rintro e w2 ⟨rfl, hbk, hbl, hsz⟩; have hcell2 := (hbl.cell (p := ad.add up) (by rw [blk_add]; exact hblk)).trans hcell; have hfr := hbk.free up; have HBK := Lib.hid hbk; have HBL := Lib.hid hbl; clear hbk hbl hcell hsz))
    have hcell3 : w2.drew.cell? (ad.add up) = some (.int .u64 (x : Int)) := hcell2
    have hfr3 : w2.drew.frozen? ⟨W.heap.size, up, none⟩ = false := hfr
    have hlow := HBK.out.cell up (by rw [List.length_append, List.length_replicate, List.length_take, HL.out]; have := HG.out; have := HT.out; omega)
    have hlow3 : w2.drew.cell? ⟨W.heap.size, up, none⟩ = _ := hlow
    go_region
    have hb4 := HBK.out.set up u (by rw [List.length_append, List.length_replicate, List.length_take, HL.out]; have := HG.out; have := HT.out; omega)
    rw [HROW.out] at hb4
    have hBl4 : Bl W (w2.setCell ⟨W.heap.size, up, none⟩ (.int .u64 (u : Int))).drew := (HBL.out.setCell (p := ⟨W.heap.size, up, none⟩) (Nat.le_refl _) _).drew
    have hrw4 := (show Bk .u64 23 (w2.setCell ⟨W.heap.size, up, none⟩ (.int .u64 (u : Int))).drew W.heap.size (l.take up ++ [u]) from hb4).rw (n := t) (by rw [List.length_append, List.length_take, HL.out]; have := HG.out; have := HT.out; simp; omega) (by unfold maxLen; have := HT.out; have := HU.out; omega)
    obtain ⟨w3, hw3⟩ : ∃ w3, (w2.setCell ⟨W.heap.size, up, none⟩ (.int .u64 (u : Int))).drew = w3 := ⟨_, rfl⟩
    rw [hw3] at hBl4 hrw4 ⊢
    have KT3 := Lib.hid (KT2.out _ _ hrw4)
    have HB4 := Lib.hid hBl4
    clear hw3 hb4 hrw4 hBl4 hcell3 hfr3 hlow hlow3 hcell2 hfr
    go_wp2_with (go_at_call 34; (with_reducible refine KT3.out.mono ?_); rintro e w' ⟨v4, rfl, rfl, hv4⟩; have HV4 := Lib.hid hv4; clear hv4)
    go_ret
    exact RwEnd.mk HV4.out HB4.out
end Go.Proofs.Ytdbmfbfdiadiaaa
