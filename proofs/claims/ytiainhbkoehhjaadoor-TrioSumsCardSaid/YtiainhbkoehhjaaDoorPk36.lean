/-
  Package trio: Split, Bound; math/bits.Rem64.
-/
import Derived.Test.YtiainhbkoehhjaaDoorPk32
import Derived.Test.YtiainhbkoehhjaaDoorPk35
namespace Go.Proofs.YtiainhbkoehhjaaDoor
open Go.RowKit
set_option linter.unusedVariables false
set_option linter.unusedSimpArgs false

theorem q_bl {w w' : World} (h : Q w w') : Bl w w' := by
  obtain ⟨n, rfl⟩ := h
  exact (Bl.refl w).drewN n

set_option maxRecDepth 100000 in
theorem rem64_any (hi lo y : Nat) (h0 : 0 < y) (hy : y < 18446744073709551616) (hlo : lo < 18446744073709551616) (w : World) :
    Calls Tryd.prog 25 #[.int .u64 (hi : Int), .int .u64 (lo : Int), .int .u64 (y : Int)] w fun e w' => e = .returned (.int .u64 ((num hi lo % y : Nat) : Int)) ∧ Bl w w' := by
  have hm := mod_two hi lo y
  have hlt := Nat.mod_lt hi h0
  obtain ⟨x, hx⟩ : ∃ x, hi % y = x := ⟨_, rfl⟩
  rw [hx] at hm hlt
  have KD : ∃ q, ∀ w, Calls Tryd.prog 42 #[.int .u64 (x : Int), .int .u64 (lo : Int), .int .u64 (y : Int)] w fun e w' => e = .returned (.tuple #[.int .u64 ((q : Nat) : Int), .int .u64 ((num hi lo % y : Nat) : Int)]) ∧ Bl w w' := by
    rcases Nat.eq_zero_or_pos x with h | h
    · subst h
      refine ⟨lo / y, fun w => (div64_small lo y h0 hy hlo w).mono fun e w' ⟨he, hq⟩ => ⟨?_, q_bl hq⟩⟩
      rw [he, ← hm]
      unfold num
      rw [Nat.zero_mul, Nat.zero_add]
    · refine ⟨(x * 18446744073709551616 + lo) / y, fun w => (div64_great x lo y h hlt hy hlo w).mono fun e w' ⟨he, hq⟩ => ⟨?_, hq ▸ Bl.refl w⟩⟩
      rw [he, ← hm]
      rfl
  obtain ⟨q, KD⟩ := KD
  have HK := Lib.hid KD
  obtain ⟨r, hr⟩ : ∃ r, num hi lo % y = r := ⟨_, rfl⟩
  rw [hr] at HK ⊢
  have r1 : (hi : Int) % (y : Int) = (x : Int) := by omega
  have r2 : ((y : Int) == 0) = false := by rw [beq_eq_false_iff_ne]; omega
  have r3 : ¬ (y : Int) = 0 := by omega
  have r4 : ¬ y = 0 := by omega
  have r5 : (hi : Int).tmod (y : Int) = (x : Int) := by rw [Int.tmod_eq_emod_of_nonneg (by omega)]; exact r1
  have r6 : IntKind.u64.wrap (x : Int) = (x : Int) := IntWalk.u64_in _ (by omega)
  clear KD hm hlt hx hr h0 hy hlo
  go_enter Tryd.func25, Tryd.ntmps25
  go_wp2_with (go_at_call 42; (with_reducible refine (HK.out _).mono ?_); rintro e w' ⟨rfl, hb'⟩)
  go_ret
  exact ⟨rfl, hb'⟩

set_option maxRecDepth 100000 in
theorem bound_any (w : World) : Calls Tryd.prog 15 #[] w fun e w' => e = .returned (pairv bdH bdL) ∧ Bl w w' := by
  have K := Lib.hid (fun W => mul64_any 167477612308856833 469762049 (by decide) (by decide) W)
  rw [mul_bound.1, mul_bound.2] at K
  have K' : Hid (∀ W, Calls Tryd.prog 33 #[.int .u64 167477612308856833, .int .u64 469762049] W fun e w' => e = .returned (.tuple #[.int .u64 ((bdH : Nat) : Int), .int .u64 ((bdL : Nat) : Int)]) ∧ W = w') := fun W => K.out W
  clear K
  unfold pairv
  obtain ⟨x, hx⟩ : ∃ x, bdH = x := ⟨_, rfl⟩
  obtain ⟨y, hy⟩ : ∃ x, bdL = x := ⟨_, rfl⟩
  rw [hx, hy] at K' ⊢
  clear hx hy
  have a24 := Tryd.isAgg24
  have z24 := Tryd.sizeOf24
  go_enter Tryd.func15, Tryd.ntmps15
  go_wp2_with (go_at_call 33; (with_reducible refine (K'.out _).mono ?_); rintro e w' ⟨rfl, rfl⟩)
  refine bodyPost_ret (v := .agg #[.int .u64 (x : Int), .int .u64 (y : Int)]) (by simp [results, Tryd.results15, go_sem, a24, z24]) rfl ⟨rfl, (Bl.refl w).alloc _⟩

/-- The first i rests. -/
def spl (X i j : Nat) : Nat := if j < i then X % p3 j else 0
theorem spl_zero (X j : Nat) : spl X 0 j = 0 := if_neg (by omega)
theorem spl_at (X i : Nat) : spl X (i + 1) i = X % p3 i := if_pos (by omega)
theorem spl_other (X i j : Nat) (h : j ≠ i) : spl X (i + 1) j = spl X i j := by
  unfold spl
  by_cases h2 : j < i
  · rw [if_pos h2, if_pos (by omega)]
  · rw [if_neg h2, if_neg (by omega)]

set_option maxRecDepth 100000 in
set_option maxHeartbeats 4000000 in
theorem split_any (hi lo : Nat) (hlo : lo < 18446744073709551616) (w : World) (hw : PrW w) :
    Calls Tryd.prog 11 #[.agg #[.int .u64 (hi : Int), .int .u64 (lo : Int)]] w fun e w' => e = .returned (three (num hi lo % 998244353) (num hi lo % 167772161) (num hi lo % 469762049)) ∧ Bl w w' := by
  have HW := Lib.hid hw
  have HLO := Lib.hid hlo
  have a24 := Tryd.isAgg24
  have z24 := Tryd.sizeOf24
  have a27 := Tryd.isAgg27
  have z27 := Tryd.sizeOf27
  clear hw hlo
  obtain ⟨X, hX⟩ : ∃ X, num hi lo = X := ⟨_, rfl⟩
  have HX := Lib.hid hX
  rw [hX]
  obtain ⟨x, hx⟩ : ∃ x, X % 998244353 = x := ⟨_, rfl⟩
  obtain ⟨y, hy⟩ : ∃ x, X % 167772161 = x := ⟨_, rfl⟩
  obtain ⟨z, hz⟩ : ∃ x, X % 469762049 = x := ⟨_, rfl⟩
  rw [hx, hy, hz]
  have HXX := Lib.hid hx
  have HYY := Lib.hid hy
  have HZZ := Lib.hid hz
  clear hX hx hy hz
  unfold three
  go_enter Tryd.func11, Tryd.ntmps11
  go_wp2
  obtain ⟨W3, hW3⟩ : ∃ W3, ((w.alloc (.cells #[.int .u64 (hi : Int), .int .u64 (lo : Int)] 24)).alloc (.cells #[.int .u32 0, .int .u32 0, .int .u32 0] 27)).alloc (.cells #[.int .u32 0, .int .u32 0, .int .u32 0] 55) = W3 := ⟨_, rfl⟩
  have hB3 : Bl w W3 := by rw [← hW3]; exact (((Bl.refl w).alloc _).alloc _).alloc _
  have hs3 : W3.heap.size = w.heap.size + 3 := by rw [← hW3]; simp
  have c0 : W3.cell? ⟨w.heap.size, 0, none⟩ = some (.int .u64 (hi : Int)) := by subst hW3; go_simp
  have c1 : W3.cell? ⟨w.heap.size, 1, none⟩ = some (.int .u64 (lo : Int)) := by subst hW3; go_simp
  have d0 : W3.cell? ⟨w.heap.size + 1, 0, none⟩ = some (.int .u32 0) ∧ W3.cell? ⟨w.heap.size + 1, 1, none⟩ = some (.int .u32 0) ∧ W3.cell? ⟨w.heap.size + 1, 2, none⟩ = some (.int .u32 0) ∧ W3.frozen? ⟨w.heap.size + 1, 0, none⟩ = false ∧ W3.frozen? ⟨w.heap.size + 1, 1, none⟩ = false ∧ W3.frozen? ⟨w.heap.size + 1, 2, none⟩ = false := by subst hW3; go_simp
  have hbk : Bk .u32 55 W3 (w.heap.size + 1 + 1) (ml 3 (spl (num hi lo) 0)) := by
    rw [ml_congr (fun p _ => spl_zero (num hi lo) p), ml_const]
    have e : ((w.alloc (.cells #[.int .u64 (hi : Int), .int .u64 (lo : Int)] 24)).alloc (.cells #[.int .u32 0, .int .u32 0, .int .u32 0] 27)).heap.size = w.heap.size + 1 + 1 := by simp
    rw [← hW3, ← e]
    exact heap_alloc_new _ _
  have hpw := HW.out.bl hB3
  have HOG : Hid (∀ W, Og (w.heap.size + 1 + 1) W3 W → W.cell? ⟨w.heap.size, 0, none⟩ = some (.int .u64 (hi : Int)) ∧ W.cell? ⟨w.heap.size, 1, none⟩ = some (.int .u64 (lo : Int)) ∧ (∀ i, i < 3 → W.cell? ⟨0, i, none⟩ = some (.int .u32 ((p3 i : Nat) : Int))) ∧
      (W.cell? ⟨w.heap.size + 1, 0, none⟩ = some (.int .u32 0) ∧ W.cell? ⟨w.heap.size + 1, 1, none⟩ = some (.int .u32 0) ∧ W.cell? ⟨w.heap.size + 1, 2, none⟩ = some (.int .u32 0) ∧ W.frozen? ⟨w.heap.size + 1, 0, none⟩ = false ∧ W.frozen? ⟨w.heap.size + 1, 1, none⟩ = false ∧ W.frozen? ⟨w.heap.size + 1, 2, none⟩ = false) ∧ Bl w W) := by
    intro W ho
    have n0 := HW.out.1
    have k1 : w.heap.size < W3.heap.size := by omega
    have k2 : w.heap.size + 1 < W3.heap.size := by omega
    have m1 : w.heap.size ≠ w.heap.size + 1 + 1 := by omega
    have m2 : w.heap.size + 1 ≠ w.heap.size + 1 + 1 := by omega
    exact ⟨(ho.cell (p := ⟨w.heap.size, 0, none⟩) k1 m1).trans c0, (ho.cell (p := ⟨w.heap.size, 1, none⟩) k1 m1).trans c1, fun i hi => (ho.cell (p := ⟨0, i, none⟩) (by show 0 < _; omega) (by show 0 ≠ _; omega)).trans (hpw.2 i hi),
      ⟨(ho.cell (p := ⟨w.heap.size + 1, 0, none⟩) k2 m2).trans d0.1, (ho.cell (p := ⟨w.heap.size + 1, 1, none⟩) k2 m2).trans d0.2.1, (ho.cell (p := ⟨w.heap.size + 1, 2, none⟩) k2 m2).trans d0.2.2.1, (ho.frozen (p := ⟨w.heap.size + 1, 0, none⟩) k2 m2).trans d0.2.2.2.1, (ho.frozen (p := ⟨w.heap.size + 1, 1, none⟩) k2 m2).trans d0.2.2.2.2.1, (ho.frozen (p := ⟨w.heap.size + 1, 2, none⟩) k2 m2).trans d0.2.2.2.2.2⟩,
      ho.bl hB3 (by omega)⟩
  have HBK := Lib.hid hbk
  rw [HX.out] at HBK
  rw [hW3]
  clear hW3 hB3 hs3 c0 c1 d0 hbk hpw
  go_loopw [5] (fun sv wr => ∃ i : Nat, i ≤ 3 ∧ sv = .int .i64 (i : Int) ∧ Hid (Bk .u32 55 wr (w.heap.size + 1 + 1) (ml 3 (spl X i))) ∧ Hid (Og (w.heap.size + 1 + 1) W3 wr)) (fun sv _ => 3 - (intOf sv).toNat)
  case atStart => exact ⟨0, by decide, rfl, HBK, Og.refl _ _⟩
  case round =>
    clear HBK
    obtain ⟨i, hi3, rfl, hbk, ho⟩ := hrel
    obtain ⟨c0, c1, cp, d0, hbl⟩ := HOG.out wr ho.out
    by_cases hlt : i < 3
    · have q := cp i hlt
      have hp := (p3_is i).ge
      have hp2 := (p3_is i).lt
      have RM := fun w => rem64_any hi lo (p3 i) (by omega) (by omega) HLO.out w
      rw [HX.out] at RM
      have hr1 := spl_at X i
      have hrl : X % p3 i < p3 i := Nat.mod_lt _ (by omega)
      obtain ⟨p, ep⟩ : ∃ p, p3 i = p := ⟨_, rfl⟩
      rw [ep] at q RM hr1 hp hp2 hrl
      obtain ⟨r, er⟩ : ∃ r, X % p = r := ⟨_, rfl⟩
      rw [er] at RM hr1 hrl
      have HRM := Lib.hid RM
      have hst : Hid (∀ W, Bk .u32 55 W (w.heap.size + 1 + 1) (ml 3 (spl X i)) → (∃ y, W.cell? ⟨w.heap.size + 1 + 1, i, none⟩ = some y) ∧ W.frozen? ⟨w.heap.size + 1 + 1, i, none⟩ = false ∧ Bk .u32 55 (W.setCell ⟨w.heap.size + 1 + 1, i, none⟩ (.int .u32 (r : Int))) (w.heap.size + 1 + 1) (ml 3 (spl X (i + 1)))) := by
        intro W hw
        refine ⟨⟨_, hw.cell i (by rw [ml_length]; exact hlt)⟩, hw.free _, ?_⟩
        have h := hw.set i r (by rw [ml_length]; exact hlt)
        rw [← hr1, ml_set (g := spl X (i + 1)) (fun p hp => spl_other X i p hp), hr1] at h
        exact h
      have e1 : IntKind.u64.wrap (p : Int) = (p : Int) := IntWalk.u64_in _ (by omega)
      have e2 : IntKind.u32.wrap (r : Int) = (r : Int) := IntWalk.u32_in _ (by omega)
      have e3 : (r : Int) % 4294967296 = (r : Int) := by omega
      have b1 : (0 : Int) ≤ (i : Int) ∧ (i : Int) < 3 := by omega
      clear RM hr1 hrl ep er hp hp2 cp d0 hbl
      go_wp2
      go_region_with (go_at_call 25; (with_reducible refine (HRM.out _).mono ?_); rintro e w' ⟨rfl, hg⟩; have hbl : Bl wr w' := (Bl.refl wr).drew.trans hg; obtain ⟨⟨y, p1⟩, p2, p3'⟩ := hst.out w' (hbk.out.bl hbl); have HB' := Lib.hid p3'; have HO := Lib.hid ((ho.out.trans (Og.of_bl hbl)).setCell i (.int .u32 (r : Int))); clear p3' hbl hg)
      all_goals
        go_wp2
        go_roundw
        case rel => exact ⟨i + 1, hlt, by go_num, HB', HO⟩
        case measure => simp [intOf] <;> omega
    · have h3 : i = 3 := by omega
      subst h3
      have q0 := hbk.out.cell 0 (by rw [ml_length]; decide)
      have q1 := hbk.out.cell 1 (by rw [ml_length]; decide)
      have q2 := hbk.out.cell 2 (by rw [ml_length]; decide)
      have v0 : (ml 3 (spl X 3))[0]'(by rw [ml_length]; decide) = X % 998244353 := by rw [ml_get]; rfl
      have v1 : (ml 3 (spl X 3))[1]'(by rw [ml_length]; decide) = X % 167772161 := by rw [ml_get]; rfl
      have v2 : (ml 3 (spl X 3))[2]'(by rw [ml_length]; decide) = X % 469762049 := by rw [ml_get]; rfl
      rw [v0] at q0
      rw [v1] at q1
      rw [v2] at q2
      rw [HXX.out] at q0
      rw [HYY.out] at q1
      rw [HZZ.out] at q2
      obtain ⟨t0, t1, t2, t3, t4, t5⟩ := d0
      have HB9 := Lib.hid (((hbl.setCell (p := ⟨w.heap.size + 1, 0, none⟩) (Nat.le_succ _) (.int .u32 (x : Int))).setCell (p := ⟨w.heap.size + 1, 1, none⟩) (Nat.le_succ _) (.int .u32 (y : Int))).setCell (p := ⟨w.heap.size + 1, 2, none⟩) (Nat.le_succ _) (.int .u32 (z : Int)))
      have hc := sets3 t0 t1 t2 (.int .u32 (x : Int)) (.int .u32 (y : Int)) (.int .u32 (z : Int))
      clear v0 v1 v2 hbk ho hbl c0 c1 cp
      go_wp2
      refine bodyPost_ret (v := .agg #[.int .u32 (x : Int), .int .u32 (y : Int), .int .u32 (z : Int)]) (by simp [results, Tryd.results11, go_sem, a27, z27, hc.1, hc.2.1, hc.2.2]) rfl ⟨rfl, HB9.out⟩
end Go.Proofs.YtiainhbkoehhjaaDoor
