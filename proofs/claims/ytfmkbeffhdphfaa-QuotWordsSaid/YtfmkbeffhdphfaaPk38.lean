/-
  Package quot: Gcd, over numbers. · Package nat: Len over numbers.
-/
import Derived.Test.YtfmkbeffhdphfaaPk30
import Derived.Test.YtfmkbeffhdphfaaPk19
import Derived.Test.YtfmkbeffhdphfaaPk34
import Derived.Test.YtfmkbeffhdphfaaPk23
namespace Go.Proofs.Ytfmkbeffhdphfaa
open Go.RowKit
set_option linter.unusedVariables false
set_option linter.unusedSimpArgs false

/-- A value reads as one row alone. -/
theorem rw_inj {k : IntKind} {w : World} {v : Value} {l m : List Nat} (h : Rw k w v l) (h' : Rw k w v m) : l = m := by
  obtain ⟨A, c, rfl, _, _, _, hx⟩ := h
  obtain ⟨A', c', e, _, _, _, hy⟩ := h'
  injection e with e1 e2 e3
  subst e1
  refine List.ext_getElem e2 fun i h1 h2 => ?_
  obtain ⟨ad, ea, hc⟩ := Src.at_ hx h1
  obtain ⟨ad', ea', hc'⟩ := Src.at_ hy h2
  rw [ea] at ea'
  cases ea'
  rw [hc] at hc'
  injection hc' with hc'
  injection hc' with _ hc'
  exact Int.ofNat.inj hc'
/-- The number that a value reads as (0, if as none): a loop's measure. -/
noncomputable def nuOf (k : IntKind) (B : Nat) (w : World) (v : Value) : Nat := by
  classical exact if h : ∃ Y, Rw k w v (dig B Y) then Classical.choose h else 0
theorem nuOf_eq {k : IntKind} {B : Nat} (hB : 2 ≤ B) {w : World} {v : Value} {Y : Nat} (h : Rw k w v (dig B Y)) : nuOf k B w v = Y := by
  have hx : ∃ Y, Rw k w v (dig B Y) := ⟨Y, h⟩
  have e : nuOf k B w v = Classical.choose hx := by unfold nuOf; rw [dif_pos hx]
  rw [e]
  have := rw_inj (Classical.choose_spec hx) h
  rw [← val_dig B hB (Classical.choose hx), this, val_dig B hB]

set_option maxRecDepth 100000 in
set_option maxHeartbeats 4000000 in
theorem pGcd (W : World) (va vb : Value) (A B j : Nat) (ha : Nu W va A) (hb : Nu W vb B) (hsa : Sz j A) (hsb : Sz j B) (hj : j < 1048575) :
    Calls Try.prog 21 #[va, vb] W (RwEnd .u64 W (dig 18446744073709551616 (Nat.gcd A B))) := by
  have KA := Lib.hid (pNorm W va A ha)
  have KB := Lib.hid (fun W' (g : Bl W W') => pNorm W' vb B (hb.bl g))
  have KD := Lib.hid (fun W' v u X Y (h : Rw .u64 W' v (dig 18446744073709551616 X)) (h' : Rw .u64 W' u (dig 18446744073709551616 Y)) (hx : Sz j X) (hy : Sz j Y) (hp : 0 < Y) => pDiv W' v u X Y j j (Nu.dig h hx (by omega)) (Nu.dig h' hy (by omega)) hp hx hy hj hj)
  have HA := Lib.hid hsa
  have HB := Lib.hid hsb
  have HJ := Lib.hid hj
  obtain ⟨G, hG⟩ : ∃ G, Nat.gcd A B = G := ⟨_, rfl⟩
  rw [hG]
  have HG := Lib.hid hG
  clear ha hb hsa hsb hj hG
  go_enter Try.func21, Try.ntmps21
  go_wp2_with (first
    | (go_at_call 28; (with_reducible refine KA.out.mono ?_); rintro e w1 ⟨v1, rfl, hr1, hb1⟩; have HR1 := Lib.hid hr1; have HB1 := Lib.hid hb1; clear hr1 hb1)
    | (go_at_call 28; (with_reducible refine (KB.out _ HB1.out).mono ?_); rintro e w2 ⟨v2, rfl, hr2, hb2⟩; have HR2 := Lib.hid hr2; have HR1' := Lib.hid (HR1.out.bl hb2); have HB2 := Lib.hid (HB1.out.trans hb2); clear hr2 hb2))
  go_loopw [0, 1] (fun a b wr => ∃ X Y : Nat, Hid (Rw .u64 wr a (dig 18446744073709551616 X)) ∧ Hid (Rw .u64 wr b (dig 18446744073709551616 Y)) ∧ Hid (Nat.gcd X Y = G ∧ Sz j X ∧ Sz j Y) ∧ Hid (Bl W wr)) (fun _ b wr => nuOf .u64 18446744073709551616 wr b)
  case atStart => exact ⟨A, B, HR1', HR2, ⟨HG.out, HA.out, HB.out⟩, HB2⟩
  case round =>
    obtain ⟨X, Y, hX, hY, hg, hb⟩ := hrel
    obtain ⟨g1, g2, g3⟩ := hg.out
    by_cases h0 : Y = 0
    · subst h0
      have hY0 := hY.out
      rw [dig_zero] at hY0
      obtain ⟨A2, k2, e2⟩ := rw_shape hY0 (show ([] : List Nat).length = 0 from rfl)
      subst e2
      rw [Nat.gcd_zero_right] at g1
      subst g1
      clear hY hY0 hg g2 g3
      go_wp2
      go_ret
      exact RwEnd.mk hX.out hb.out
    · have hp : 0 < Y := Nat.pos_of_ne_zero h0
      have hl := dig_len_of_lt 18446744073709551616 (by decide) Y j g3
      have hlp := dig_len_pos 18446744073709551616 (by decide) Y hp
      obtain ⟨n, hn⟩ : ∃ n, (dig 18446744073709551616 Y).length = n := ⟨_, rfl⟩
      obtain ⟨A2, k2, e2⟩ := rw_shape hY.out hn
      subst e2
      have KD1 := Lib.hid (KD.out wr _ _ X Y hX.out hY.out g2 g3 hp)
      have hnp : 0 < n := by omega
      have hj := HJ.out
      have n1 : decide ((0 : Int) < (n : Int)) = true := decide_eq_true (by omega)
      have nb : (n : Int) ≤ 1048576 := by omega
      have hm1 := nuOf_eq (k := .u64) (B := 18446744073709551616) (by decide) hY.out
      have hgc : Nat.gcd Y (X % Y) = G := by rw [← g1, Nat.gcd_comm Y, ← Nat.gcd_rec, Nat.gcd_comm]
      have HN : Hid (Nat.gcd Y (X % Y) = G ∧ Sz j Y ∧ Sz j (X % Y)) := ⟨hgc, g3, g2.le (Nat.mod_le _ _)⟩
      have HM := Lib.hid hm1
      have HP := Lib.hid hp
      clear hl hlp hn hm1 hgc hg g1 g2 g3 hp h0 hj
      go_wp2_with (go_at_call 12; (with_reducible refine KD1.out.mono ?_); rintro e w3 ⟨q, r, rfl, hq, hr, hb3⟩; have HR := Lib.hid hr; have HY3 := Lib.hid (hY.out.bl hb3); have HB3 := Lib.hid (hb.out.trans hb3); clear hq hr hb3)
      go_roundw
      case rel => exact ⟨Y, X % Y, HY3, HR, HN, HB3⟩
      case measure =>
        rw [HM.out, nuOf_eq (by decide) HR.out]
        exact Nat.mod_lt _ HP.out
end Go.Proofs.Ytfmkbeffhdphfaa
namespace Go.Proofs.Ytfmkbeffhdphfaa
open Go.RowKit
set_option linter.unusedVariables false

set_option maxRecDepth 100000 in
set_option maxHeartbeats 1000000 in
theorem pLen : CLen := by
  intro W v X hv
  have h1 := (nu_len hv)
  have KT := Lib.hid (trimN W v X hv)
  rcases Nat.eq_zero_or_pos (dig 18446744073709551616 X).length with h0 | h0
  · have e0 : dig 18446744073709551616 X = [] := List.length_eq_zero_iff.1 h0
    have eX : X = 0 := by rw [← val_dig 18446744073709551616 (by decide) X, e0]; rfl
    have eb : blen X = 0 := by rw [eX]; rfl
    rw [e0] at KT
    rw [eb]
    clear eb eX e0 h0 h1 hv
    go_enter Try.func61, Try.ntmps61
    go_wp2_with (go_at_call 46; (with_reducible refine KT.out.mono ?_); rintro e w' ⟨v2, rfl, rfl, hv2⟩; obtain ⟨A, c, rfl, _⟩ := hv2)
    go_ret
    exact ⟨rfl, Bl.refl _⟩
  · obtain ⟨n, hn⟩ : ∃ n, (dig 18446744073709551616 X).length = n + 1 := ⟨(dig 18446744073709551616 X).length - 1, by omega⟩
    obtain ⟨x, hx⟩ : ∃ x, X / 18446744073709551616 ^ n = x := ⟨_, rfl⟩
    obtain ⟨g1, g2, g3⟩ := blen_top X n hn x hx
    have hget : (dig 18446744073709551616 X)[n]? = some x := by rw [List.getElem?_eq_getElem (by omega), dig_get _ (by decide), hx, Nat.mod_eq_of_lt g2]
    have KL := Lib.hid (fun w => len_any x g2 w)
    have hbl := Lib.bitLen_le x 64 (by omega) g2
    obtain ⟨l, hl⟩ : ∃ l, dig 18446744073709551616 X = l := ⟨_, rfl⟩
    rw [hl] at hn h1 h0 hget KT
    have HG : Hid (∀ h : n < l.length, l[n]'h = x) := fun h => (List.getElem?_eq_some_iff.1 hget).2
    have HN := Lib.hid hn
    obtain ⟨b, hb⟩ : ∃ b, Lib.bitLen x = b := ⟨_, rfl⟩
    rw [hb] at KL hbl g3
    obtain ⟨r, hr⟩ : ∃ r, blen X = r := ⟨_, rfl⟩
    rw [hr] at g3 ⊢
    have b1 : (0 : Int) ≤ (n : Int) ∧ (n : Int) < ((n + 1 : Nat) : Int) := by omega
    have r1 : ((n + 1 : Nat) : Int) - 1 = (n : Int) := by omega
    have r2 : (64 : Int) * (n : Int) + (b : Int) = (r : Int) := by omega
    have i1 : (n : Int) ≤ 1048576 := by omega
    have n1 : (((n + 1 : Nat) : Int) == 0) = false := by rw [beq_eq_false_iff_ne]; omega
    have i2 : (b : Int) ≤ 64 := by omega
    obtain ⟨N, hN⟩ : ∃ N, n + 1 = N := ⟨_, rfl⟩
    rw [hN] at b1 r1 n1
    have HNN := Lib.hid hN
    clear hl hb hr hx hget hn h1 h0 g1 g2 g3 hv hbl hN
    go_enter Try.func61, Try.ntmps61
    go_wp2_with (first
      | (go_at_call 46; (with_reducible refine KT.out.mono ?_); rintro e w' ⟨v2, rfl, rfl, hv2⟩; have HV := Lib.hid hv2; obtain ⟨A, c, rfl, hc, hm, hA0, hA⟩ := hv2; obtain ⟨ad, rfl, hcell⟩ := hA.at_ (i := n) (by rw [HN.out]; omega); rw [HG.out _] at hcell; rw [HN.out, HNN.out]; clear hA hA0 hc hm)
      | (go_at_call 41; (with_reducible refine (KL.out _).mono ?_); rintro e w' ⟨rfl, rfl⟩))
    go_ret
    exact ⟨rfl, Bl.refl _⟩
end Go.Proofs.Ytfmkbeffhdphfaa
