/-
  The document's rows of digits (layer 4): Less. · What package nat's other functions are to answer (layer 4), as properties; few, ordered of the statements. · Package nat: Len over numbers. · Package nat: Shl over numbers.
-/
import Derived.Test.YtojpfijjnocboaaPk12
import Derived.Test.YtojpfijjnocboaaPk14
import Derived.Test.YtojpfijjnocboaaPk22
import Derived.Test.YtojpfijjnocboaaPk26
namespace Go.Proofs.Ytojpfijjnocboaa
open Go.RowKit
set_option linter.unusedVariables false

end Go.Proofs.Ytojpfijjnocboaa
namespace Go.Proofs.Ytojpfijjnocboaa
open Go.RowKit
set_option linter.unusedVariables false

def CShr : Prop := ∀ (W : World) (v : Value) (X : Nat) (n : Int), Nu W v X → n ≤ 33554432 → -9223372036854775808 ≤ n → Calls Try.prog 34 #[v, .int .i64 n] W (RwEnd .u64 W (dig 18446744073709551616 (X / 2 ^ n.toNat)))
def CLen : Prop := ∀ (W : World) (v : Value) (X : Nat), Nu W v X → Calls Try.prog 38 #[v] W fun e w => e = .returned (.int .i64 ((blen X : Nat) : Int)) ∧ Bl W w

/-! ### few, ordered -/
end Go.Proofs.Ytojpfijjnocboaa
namespace Go.Proofs.Ytojpfijjnocboaa
open Go.RowKit
set_option linter.unusedVariables false

set_option maxRecDepth 100000 in
set_option maxHeartbeats 1000000 in
theorem pLen : CLen := by
  intro W v X hv
  have h1 := (nu_len hv)
  have KT := Lib.hid (trimN W v X hv)
  rcases Nat.eq_zero_or_pos (dig 18446744073709551616 X).length with h0 | h0
  · have e0 : dig 18446744073709551616 X = [] := List.length_eq_zero_iff.1 h0
    have eX : X = 0 := by rw [← val_dig 18446744073709551616 (by decide) X, e0]; rfl
    have eb : blen X = 0 := by rw [eX]; rfl
    rw [e0] at KT
    rw [eb]
    clear eb eX e0 h0 h1 hv
    go_enter Try.func38, Try.ntmps38
    go_wp2_with (go_at_call 42; (with_reducible refine KT.out.mono ?_); rintro e w' ⟨v2, rfl, rfl, hv2⟩; obtain ⟨A, c, rfl, _⟩ := hv2)
    go_ret
    exact ⟨rfl, Bl.refl _⟩
  · obtain ⟨n, hn⟩ : ∃ n, (dig 18446744073709551616 X).length = n + 1 := ⟨(dig 18446744073709551616 X).length - 1, by omega⟩
    obtain ⟨x, hx⟩ : ∃ x, X / 18446744073709551616 ^ n = x := ⟨_, rfl⟩
    obtain ⟨g1, g2, g3⟩ := blen_top X n hn x hx
    have hget : (dig 18446744073709551616 X)[n]? = some x := by rw [List.getElem?_eq_getElem (by omega), dig_get _ (by decide), hx, Nat.mod_eq_of_lt g2]
    have KL := Lib.hid (fun w => len_any x g2 w)
    have hbl := Lib.bitLen_le x 64 (by omega) g2
    obtain ⟨l, hl⟩ : ∃ l, dig 18446744073709551616 X = l := ⟨_, rfl⟩
    rw [hl] at hn h1 h0 hget KT
    have HG : Hid (∀ h : n < l.length, l[n]'h = x) := fun h => (List.getElem?_eq_some_iff.1 hget).2
    have HN := Lib.hid hn
    obtain ⟨b, hb⟩ : ∃ b, Lib.bitLen x = b := ⟨_, rfl⟩
    rw [hb] at KL hbl g3
    obtain ⟨r, hr⟩ : ∃ r, blen X = r := ⟨_, rfl⟩
    rw [hr] at g3 ⊢
    have b1 : (0 : Int) ≤ (n : Int) ∧ (n : Int) < ((n + 1 : Nat) : Int) := by omega
    have r1 : ((n + 1 : Nat) : Int) - 1 = (n : Int) := by omega
    have r2 : (64 : Int) * (n : Int) + (b : Int) = (r : Int) := by omega
    have i1 : (n : Int) ≤ 1048576 := by omega
    have n1 : (((n + 1 : Nat) : Int) == 0) = false := by rw [beq_eq_false_iff_ne]; omega
    have i2 : (b : Int) ≤ 64 := by omega
    obtain ⟨N, hN⟩ : ∃ N, n + 1 = N := ⟨_, rfl⟩
    rw [hN] at b1 r1 n1
    have HNN := Lib.hid hN
    clear hl hb hr hx hget hn h1 h0 g1 g2 g3 hv hbl hN
    go_enter Try.func38, Try.ntmps38
    go_wp2_with (first
      | (go_at_call 42; (with_reducible refine KT.out.mono ?_); rintro e w' ⟨v2, rfl, rfl, hv2⟩; have HV := Lib.hid hv2; obtain ⟨A, c, rfl, hc, hm, hA0, hA⟩ := hv2; obtain ⟨ad, rfl, hcell⟩ := hA.at_ (i := n) (by rw [HN.out]; omega); rw [HG.out _] at hcell; rw [HN.out, HNN.out]; clear hA hA0 hc hm)
      | (go_at_call 59; (with_reducible refine (KL.out _).mono ?_); rintro e w' ⟨rfl, rfl⟩))
    go_ret
    exact ⟨rfl, Bl.refl _⟩
end Go.Proofs.Ytojpfijjnocboaa
namespace Go.Proofs.Ytojpfijjnocboaa
open Go.RowKit
set_option linter.unusedVariables false
set_option linter.unusedSimpArgs false

theorem raiseN (W : World) (v : Value) (X s : Nat) (hs : s ≤ 64) (hv : Rw .u64 W v (dig 18446744073709551616 X)) (hl : (dig 18446744073709551616 X).length < 1048576) :
    Calls Try.prog 56 #[.func (.func 57) #[] #[], v, .int .u64 (s : Int)] W (RwEnd .u64 W (dig 18446744073709551616 (X * 2 ^ s))) := by
  have a1 := all_dig 18446744073709551616 (by decide) X
  have h := pspread_any 57 s raF raG _ raise_nx v _ a1 hl hs (wds_raise _ a1 s) W hv
  rwa [raise_made _ a1 s hs, val_dig _ (by decide)] at h
theorem raised_len (X s : Nat) (hs : s ≤ 64) (hl : (dig 18446744073709551616 X).length < 1048576) : (dig 18446744073709551616 (X * 2 ^ s)).length ≤ 1048576 := by
  have h1 := dig_lt 18446744073709551616 (by decide) X
  have h2 : 2 ^ s ≤ 18446744073709551616 := by
    have : (18446744073709551616 : Nat) = 2 ^ 64 := by decide
    rw [this]
    exact Nat.pow_le_pow_right (by decide) hs
  have h3 : X * 2 ^ s < 18446744073709551616 ^ ((dig 18446744073709551616 X).length + 1) := by
    rw [Nat.pow_succ]
    exact Nat.lt_of_lt_of_le (Nat.mul_lt_mul_of_pos_right h1 (Nat.two_pow_pos s)) (Nat.mul_le_mul_left _ h2)
  have h4 := dig_len_of_lt _ (by decide) _ _ h3
  omega
theorem splice_up (m : List Nat) (up k : Nat) (hk : m.length = k) : splice (List.replicate (up + k) 0) up (m.take k) = List.replicate up 0 ++ m := by
  rw [← hk, List.take_of_length_le (Nat.le_refl _)]
  simp [splice]

set_option maxRecDepth 100000 in
set_option maxHeartbeats 2000000 in
theorem pShl : CShl := by
  intro W v X n hv hn1 hn2
  obtain ⟨i0, hi, hz0, hz1, hz2⟩ := info_parts infoW
  have h1 := nu_len hv
  have hb : n.toNat % 64 ≤ 64 := by omega
  have hu : n.toNat / 64 ≤ 524288 := by omega
  have KP := Lib.hid (fun w => pplace_any n hn1 hn2 w)
  have KT := Lib.hid (trimN W v X hv)
  have KR := Lib.hid (fun v2 (h : Rw .u64 W v2 (dig 18446744073709551616 X)) => raiseN W v2 X (n.toNat % 64) hb h h1)
  have hk := raised_len X (n.toNat % 64) hb h1
  have eX : X * 2 ^ n.toNat = X * 2 ^ (n.toNat % 64) * 18446744073709551616 ^ (n.toNat / 64) := by rw [two_n n.toNat, Nat.mul_assoc, Nat.mul_comm (2 ^ _)]
  rw [eX]
  obtain ⟨s, hs⟩ : ∃ s, n.toNat % 64 = s := ⟨_, rfl⟩
  obtain ⟨up, hup⟩ : ∃ s, n.toNat / 64 = s := ⟨_, rfl⟩
  rw [hs] at KP KR hk hb ⊢
  rw [hup] at KP hu ⊢
  obtain ⟨Z, hZ⟩ : ∃ Z, X * 2 ^ s = Z := ⟨_, rfl⟩
  rw [hZ] at KR hk ⊢
  have r1 : IntKind.u64.wrap (s : Int) = (s : Int) := by rw [IntKind.wrap_u64]; omega
  have sb : (s : Int) ≤ 64 := by omega
  clear hs hup hZ eX hv h1 hb
  rcases Nat.eq_zero_or_pos Z with h0 | h0
  · subst h0
    rw [Nat.zero_mul]
    rw [dig_zero] at KR
    go_enter Try.func37, Try.ntmps37
    go_wp2_with (first
      | (go_at_call 55; (with_reducible refine (KP.out _).mono ?_); rintro e w' ⟨rfl, rfl⟩)
      | (go_at_call 42; (with_reducible refine KT.out.mono ?_); rintro e w' ⟨v2, rfl, rfl, hv2⟩; have HV := Lib.hid hv2; clear hv2)
      | (go_at_call 56; refine (KR.out _ HV.out).mono ?_; rintro e w2 ⟨v3, rfl, hv3, hb3⟩; have HB3 := Lib.hid hb3; obtain ⟨A3, c3, rfl, _⟩ := hv3; clear hb3))
    go_ret
    exact RwEnd.mk (Rw.nil _ _) HB3.out
  · have hkp := dig_len_pos 18446744073709551616 (by decide) Z h0
    have HE := Lib.hid (dig_up 18446744073709551616 (by decide) Z h0 up)
    obtain ⟨l, hl⟩ : ∃ l, dig 18446744073709551616 Z = l := ⟨_, rfl⟩
    rw [hl] at KR hk hkp HE
    obtain ⟨k, hkl⟩ : ∃ k, l.length = k := ⟨_, rfl⟩
    rw [hkl] at hk hkp
    have HKL := Lib.hid hkl
    have HU := Lib.hid hu
    have HKK := Lib.hid hk
    have hmk := fun W => run_mk (P := Try.prog) .u64 22 23 i0 Try.underlying22 hi hz0 hz1 (by omega) (up + k) (by omega) W
    obtain ⟨t, ht⟩ : ∃ t, up + k = t := ⟨_, rfl⟩
    rw [ht] at hmk
    have HT := Lib.hid ht
    have n1 : ((k : Int) == 0) = false := by rw [beq_eq_false_iff_ne]; omega
    have n2 : decide (268435455 - (k : Int) < (up : Int)) = false := decide_eq_false (by omega)
    have n3 : (up : Int) + (k : Int) = (t : Int) := by omega
    have n4 : (k : Int) ≤ 1048577 := by omega
    have n5 : (up : Int) ≤ 524288 := by omega
    have n6 : (0 : Int) ≤ (up : Int) ∧ (up : Int) ≤ (t : Int) := by omega
    have n7 : (t : Int) ≤ 1573000 := by omega
    have n8 : ¬ t = up := by omega
    have n9 : t - up = k := by omega
    clear hl hkl hkp hk hu h0 ht
    go_enter Try.func37, Try.ntmps37
    go_wp2_with (first
      | (go_at_call 55; (with_reducible refine (KP.out _).mono ?_); rintro e w' ⟨rfl, rfl⟩)
      | (go_at_call 42; (with_reducible refine KT.out.mono ?_); rintro e w' ⟨v2, rfl, rfl, hv2⟩; have HV := Lib.hid hv2; clear hv2)
      | (go_at_call 56; refine (KR.out _ HV.out).mono ?_; rintro e w2 ⟨v3, rfl, hv3, hb3⟩; have HB3 := Lib.hid hb3; obtain ⟨A3, c3, rfl, -, -, -, hx3⟩ := hv3; have HX3 := Lib.hid hx3; clear hb3 hx3; rw [HKL.out])
      | (refine copy_bk w2 _ .u64 23 rfl _ _ _ _ rfl 23 Try.underlying22 (by rw [hi]; simp [hz1]) w2.heap.size up k k A3 k c3 rfl rfl (List.replicate t 0) l HKL.out.symm (Bk.made _ _ _ _) (HX3.out.bl ((Bl.refl w2).alloc _)) (by have := HKL.out; have := HT.out; simp; omega) ((Bl.refl w2).alloc _) (Nat.le_refl _) ?_; intro w' hbk hbl hoth))
    go_ret
    have hb := hbk.out
    rw [← HT.out, splice_up l up k HKL.out] at hb
    refine RwEnd.of (hb.rw (n := t) (by have := HKL.out; have := HT.out; simp; omega) (by unfold maxLen; have := HT.out; have := HU.out; have := HKK.out; omega)) (HB3.out.trans hbl.out) HE.out
end Go.Proofs.Ytojpfijjnocboaa
