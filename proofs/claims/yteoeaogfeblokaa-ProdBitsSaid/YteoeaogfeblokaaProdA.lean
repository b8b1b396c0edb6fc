/-
  Package prod: what its functions are to answer, as properties; Half.
-/
import Derived.Test.YteoeaogfeblokaaNatPk
import Derived.Test.YteoeaogfeblokaaNtJ
import Derived.Deep.RegionWith
namespace Go.Proofs.Yteoeaogfeblokaa
open Go.RowKit
set_option linter.unusedVariables false
set_option linter.unusedSimpArgs false

def CHalf : Prop := ∀ (W : World) (v : Value) (X : Nat) (n : Int), Nu W v X → n ≤ 9223372036854775807 → -9223372036854775808 ≤ n → Calls Try.prog 19 #[v, .int .i64 n] W (RwEnd2 .u64 W (dig 18446744073709551616 (X / 18446744073709551616 ^ n.toNat)) (dig 18446744073709551616 (X % 18446744073709551616 ^ n.toNat)))

/-- A slice from place j on. -/
theorem src_from {k : IntKind} {w : World} {ad : Addr} {l : List Nat} (h : Src k w (some ad) l) (j : Nat) : Src k w (some (ad.add j)) (l.drop j) := by
  intro hl
  rw [List.length_drop] at hl
  obtain ⟨ad', e, hb, hx⟩ := h (by omega)
  cases e
  refine ⟨_, rfl, by rw [blk_add]; exact hb, fun i hi => ?_⟩
  rw [List.length_drop] at hi
  rw [List.getElem_drop, show (ad.add j).add i = ad.add (j + i) from Addr.add_add _ _ _]
  exact hx (j + i) (by omega)
theorem half_num (l : List Nat) (ha : All 18446744073709551616 l) (n : Nat) : val 18446744073709551616 (l.take (min n l.length)) = val 18446744073709551616 l % 18446744073709551616 ^ n ∧ val 18446744073709551616 (l.drop (min n l.length)) = val 18446744073709551616 l / 18446744073709551616 ^ n := by
  have hB : (0 : Nat) < 18446744073709551616 := by decide
  rcases Nat.lt_or_ge l.length n with h | h
  · have hlt : val 18446744073709551616 l < 18446744073709551616 ^ n := Nat.lt_of_lt_of_le (val_lt _ hB l ha) (Nat.pow_le_pow_right hB (by omega))
    rw [Nat.min_eq_right (by omega), List.take_length, List.drop_length, Nat.mod_eq_of_lt hlt, Nat.div_eq_of_lt hlt]
    exact ⟨rfl, rfl⟩
  · rw [Nat.min_eq_left h]
    exact val_take_drop _ hB l ha n h
theorem all_drop {B : Nat} {l : List Nat} (h : All B l) (k : Nat) : All B (l.drop k) := by
  intro i hi
  rw [List.getElem_drop]
  exact h _ _

set_option maxRecDepth 100000 in
set_option maxHeartbeats 2000000 in
theorem pHalf : CHalf := by
  intro W v X n hv hn1 hn2
  obtain ⟨l, hr, ha, hl, hx⟩ := hv
  obtain ⟨h1, h2⟩ := half_num l ha n.toNat
  rw [hx] at h1 h2
  obtain ⟨k, hk⟩ : ∃ k, min n.toNat l.length = k := ⟨_, rfl⟩
  rw [hk] at h1 h2
  have hkl : k ≤ l.length := by omega
  have e1 : min (max n 0) (l.length : Int) = (k : Int) := by omega
  have KL := Lib.hid (fun W' v' (h : Rw .u64 W' v' (l.take k)) => pNorm W' v' _ (Nu.mk h (all_take ha k) (by rw [List.length_take]; omega)))
  have KH := Lib.hid (fun W' v' (h : Rw .u64 W' v' (l.drop k)) => pNorm W' v' _ (Nu.mk h (all_drop ha k) (by rw [List.length_drop]; omega)))
  rw [h1] at KL
  rw [h2] at KH
  obtain ⟨lo, hlo⟩ : ∃ m, dig 18446744073709551616 (X % 18446744073709551616 ^ n.toNat) = m := ⟨_, rfl⟩
  obtain ⟨hi, hhi⟩ : ∃ m, dig 18446744073709551616 (X / 18446744073709551616 ^ n.toNat) = m := ⟨_, rfl⟩
  rw [hlo] at KL ⊢
  rw [hhi] at KH ⊢
  obtain ⟨A, c, rfl, hc, hm, h0, hs⟩ := hr
  have HS := Lib.hid hs
  obtain ⟨L, hL⟩ : ∃ k, l.length = k := ⟨_, rfl⟩
  have HL := Lib.hid hL
  rw [hL] at hkl e1 hc ⊢
  have n2 : (0 : Int) ≤ (k : Int) ∧ (k : Int) ≤ (L : Int) := by omega
  have n3 : (0 : Int) ≤ (k : Int) ∧ (k : Int) ≤ (c : Int) := by omega
  have n4 : (L : Int) ≤ 1048576 := by omega
  clear hk hlo hhi h1 h2 hL hl hx ha hs
  by_cases hck : c = k
  · have HSl := Lib.hid (fun W' (g : Bl W W') => ((HS.out.take k).bl g).rw (n := k) (c := k) (by rw [List.length_take, HL.out]; omega) (by omega) (by omega) (fun h => by have := h0 h; omega))
    have HSh := Lib.hid (fun W' (g : Bl W W') => (show Rw .u64 W' (.slice A (L - k) 0) (l.drop k) by
      rw [List.drop_eq_nil_of_le (by rw [HL.out]; omega), show L - k = 0 by omega]
      exact ⟨A, 0, rfl, Nat.le_refl _, by decide, fun _ => rfl, Src.nil _ _ _⟩))
    clear h0 hm
    go_enter Try.func19, Try.ntmps19
    go_wp2_with (fail)
    go_region_with (first
      | (go_at_call 30; (with_reducible refine (KH.out _ _ (HSh.out _ ((Bl.refl _).drew))).mono ?_); rintro e w1 ⟨v1, rfl, hr1, hb1⟩)
      | (go_at_call 30; (with_reducible refine (KL.out _ _ (HSl.out _ (((Bl.refl _).drew).trans hb1))).mono ?_); rintro e w2 ⟨v2, rfl, hr2, hb2⟩))
    go_wp2
    go_ret2
    exact RwEnd2.mk (hr1.bl hb2) hr2 (((Bl.refl _).drew.trans hb1).trans hb2)
  · obtain ⟨ad, rfl⟩ : ∃ ad, A = some ad := by
      cases A with
      | none => have := h0 rfl; omega
      | some ad => exact ⟨ad, rfl⟩
    have HSl := Lib.hid (fun W' (g : Bl W W') => ((HS.out.take k).bl g).rw (n := k) (c := c) (by rw [List.length_take, HL.out]; omega) (by omega) hm h0)
    have HSh := Lib.hid (fun W' (g : Bl W W') => (show Rw .u64 W' (.slice (some (ad.add k)) (L - k) (c - k)) (l.drop k) by
      exact (src_from (HS.out.bl g) k).rw (by rw [List.length_drop, HL.out]) (by omega) (by omega) (fun h => by cases h)))
    clear h0 hm
    go_enter Try.func19, Try.ntmps19
    go_wp2_with (fail)
    go_region_with (first
      | (go_at_call 30; (with_reducible refine (KH.out _ _ (HSh.out _ ((Bl.refl _).drew))).mono ?_); rintro e w1 ⟨v1, rfl, hr1, hb1⟩)
      | (go_at_call 30; (with_reducible refine (KL.out _ _ (HSl.out _ (((Bl.refl _).drew).trans hb1))).mono ?_); rintro e w2 ⟨v2, rfl, hr2, hb2⟩))
    go_wp2
    go_ret2
    exact RwEnd2.mk (hr1.bl hb2) hr2 (((Bl.refl _).drew.trans hb1).trans hb2)
end Go.Proofs.Yteoeaogfeblokaa
