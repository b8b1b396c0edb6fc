/-
  The walk of the statement TrioSums.
-/
import Derived.Test.YtiainhbkoehhjaaDoorPk41
import Derived.Test.YtiainhbkoehhjaaDoorPk42
import Derived.Test.YtiainhbkoehhjaaDoorPk46
import Derived.Test.YtiainhbkoehhjaaDoorPk44
import Derived.Test.YtiainhbkoehhjaaDoorPk23
namespace Go.Proofs.YtiainhbkoehhjaaDoor
open Go.RowKit
set_option linter.unusedVariables false
set_option linter.unusedSimpArgs false

theorem ml_succ {α : Type} (i : Nat) (f : Nat → α) : ml (i + 1) f = ml i f ++ [f i] := by simp [ml, List.range_succ]
def sF (b c : List Nat) (q : Nat) : Nat := b.getD q 0 + c.getD q 0
/-- What the first loop has told of the first i elements. -/
def Lw (b c : List Nat) (i : Nat) : Prop := ∀ q, q < i → b.getD q 0 < 2147483648 ∧ c.getD q 0 < 2147483648
theorem sF_get {b c : List Nat} {n : Nat} (hb : b.length = n) (hc : c.length = n) (q : Nat) : (ml n (sF b c)).getD q 0 = b.getD q 0 + c.getD q 0 := by
  by_cases h : q < n
  · rw [getD_in (by rw [ml_length]; exact h), ml_get]; rfl
  · rw [getD_over (by rw [ml_length]; omega), getD_over (by omega), getD_over (by omega)]
theorem lw_all {b c : List Nat} {n : Nat} (hb : b.length = n) (hc : c.length = n) (h : Lw b c n) : All 4294967296 b ∧ All 4294967296 c ∧ All 4294967296 (ml n (sF b c)) := by
  refine ⟨fun i hi => ?_, fun i hi => ?_, fun i hi => ?_⟩
  · have := (h i (by omega)).1; rw [getD_in hi] at this; omega
  · have := (h i (by omega)).2; rw [getD_in hi] at this; omega
  · rw [ml_get]; have := h i (by rw [ml_length] at hi; exact hi); unfold sF; omega
theorem cl_same (a b c : List Nat) (h : b.length = c.length) : cl a b = cl a c := by unfold cl; rw [h]
/-- One place of the sum of two products. -/
theorem two_tw (u v : Nat) (hu : u < bd) (hv : v < bd) : ∃ h1 l1 h2 l2 s c t r : Nat, tw u = (h1, l1) ∧ tw v = (h2, l2) ∧ addS l1 l2 0 = s ∧ addC l1 l2 0 = c ∧ (h1 : Int) + (h2 : Int) = (t : Int) ∧ (t : Int) + (c : Int) = (r : Int) ∧ IntKind.u64.wrap (t : Int) = (t : Int) ∧ IntKind.u64.wrap (r : Int) = (r : Int) ∧ IntKind.u64.wrap ((h1 : Int) + (h2 : Int)) = (t : Int) ∧ IntKind.u64.wrap ((t : Int) + (c : Int)) = (r : Int) ∧ tw (u + v) = (r, s) ∧ l1 < 18446744073709551616 ∧ l2 < 18446744073709551616 := by
  have hl : (tw v).2 < 18446744073709551616 := Nat.mod_lt _ (by decide)
  have hl' : (tw u).2 < 18446744073709551616 := Nat.mod_lt _ (by decide)
  have k1 : (tw u).1 < 4294967296 := by have := num_tw u; unfold num at this; unfold bd at hu; omega
  have k2 : (tw v).1 < 4294967296 := by have := num_tw v; unfold num at this; unfold bd at hv; omega
  have eu := num_tw u
  have ev := num_tw v
  obtain ⟨h1, e1⟩ : ∃ x, (tw u).1 = x := ⟨_, rfl⟩
  obtain ⟨l1, e2⟩ : ∃ x, (tw u).2 = x := ⟨_, rfl⟩
  obtain ⟨h2, e3⟩ : ∃ x, (tw v).1 = x := ⟨_, rfl⟩
  obtain ⟨l2, e4⟩ : ∃ x, (tw v).2 = x := ⟨_, rfl⟩
  rw [e1, e2] at eu
  rw [e3, e4] at ev
  rw [e2] at hl'
  rw [e4] at hl
  rw [e1] at k1
  rw [e3] at k2
  have hc : (l1 + l2) / 18446744073709551616 ≤ 1 := by omega
  have ht : tw (u + v) = (h1 + h2 + (l1 + l2) / 18446744073709551616, (l1 + l2) % 18446744073709551616) := by
    unfold num at eu ev
    unfold tw
    rw [← eu, ← ev]
    refine Prod.ext ?_ ?_
    · show (h1 * 18446744073709551616 + l1 + (h2 * 18446744073709551616 + l2)) / 18446744073709551616 = _
      omega
    · show (h1 * 18446744073709551616 + l1 + (h2 * 18446744073709551616 + l2)) % 18446744073709551616 = _
      omega
  refine ⟨h1, l1, h2, l2, (l1 + l2) % 18446744073709551616, (l1 + l2) / 18446744073709551616, h1 + h2, h1 + h2 + (l1 + l2) / 18446744073709551616, ?_, ?_, ?_, ?_, ?_, ?_, ?_, ?_, ?_, ?_, ht, hl', hl⟩
  · exact Prod.ext e1 e2
  · exact Prod.ext e3 e4
  · unfold addS un; rfl
  · unfold addC un; rfl
  · exact (Int.natCast_add _ _).symm
  · exact (Int.natCast_add _ _).symm
  · exact IntWalk.u64_in _ (by omega)
  · exact IntWalk.u64_in _ (by omega)
  · rw [← Int.natCast_add]; exact IntWalk.u64_in _ (by omega)
  · rw [← Int.natCast_add (h1 + h2)]; exact IntWalk.u64_in _ (by omega)
theorem times_row (a b : List Nat) (hal : a.length ≤ 10000) (hbl : b.length ≤ 10000) (ha : All 4294967296 a) (hb : All 4294967296 b) (W : World) (v1 v2 : Value) (hw : PrW W) (h1 : Rw .u64 W v1 a) (h2 : Rw .u64 W v2 b) :
    Calls Tryd.prog 19 #[v1, v2] W (PrEr W ((cvs a b).map tw) 0) := by
  refine (times_any v1 v2 a b hal hbl W hw h1 h2).mono fun e w h => ?_
  rcases h with ⟨hn, _⟩ | ⟨_, _, he⟩
  · exact absurd ⟨ha, hb⟩ hn
  · exact he

set_option maxRecDepth 100000 in
set_option maxHeartbeats 8000000 in
theorem trioSums_walk (v0 : Value) (l0 : List Nat) (v1 : Value) (l1 : List Nat) (v2 : Value) (l2 : List Nat) (b0 : All 18446744073709551616 l0) (b1 : All 18446744073709551616 l1) (b2 : All 18446744073709551616 l2) (W : World) (r0 : Rw .u64 W v0 l0) (r1 : Rw .u64 W v1 l1) (r2 : Rw .u64 W v2 l2) (hw : PrW W) :
    Calls Tryd.prog 9 #[v0, v1, v2] W fun e w' => e = .returned (.bool true) ∧ Bl W w' := by
  obtain ⟨i0, hi, hz0, hz1, hz2⟩ := info_parts Tryd.infoU64
  obtain ⟨j0, hj, hy0, hy1, hy2⟩ := info_parts Tryd.infoPair
  have SH := Lib.hid (fun w hw => shown9 w hw)
  have HW := Lib.hid hw
  have R0 := Lib.hid r0
  have R1 := Lib.hid r1
  have R2 := Lib.hid r2
  obtain ⟨A1, c1, rfl, hk1, hm1, _, _⟩ := r0
  obtain ⟨A2, c2, rfl, hk2, hm2, _, hs1⟩ := r1
  obtain ⟨A3, c3, rfl, hk3, hm3, _, hs2⟩ := r2
  obtain ⟨x, hx⟩ : ∃ x, l0.length = x := ⟨_, rfl⟩
  obtain ⟨n, hn⟩ : ∃ x, l1.length = x := ⟨_, rfl⟩
  obtain ⟨z, hz⟩ : ∃ x, l2.length = x := ⟨_, rfl⟩
  have HX := Lib.hid hx
  have HN := Lib.hid hn
  have HZ := Lib.hid hz
  have HS1 := Lib.hid hs1
  have HS2 := Lib.hid hs2
  have HB0 := Lib.hid b0
  rw [hx] at hk1 R0 ⊢
  rw [hn] at hk2 R1 ⊢
  rw [hz] at hk3 R2 ⊢
  clear hx hn hz hs1 hs2 b0 b1 b2 hw
  have hm1' : (x : Int) ≤ 9223372036854775807 := by unfold maxLen at hm1; omega
  have hm2' : (n : Int) ≤ 9223372036854775807 := by unfold maxLen at hm2; omega
  have hm3' : (z : Int) ≤ 9223372036854775807 := by unfold maxLen at hm3; omega
  clear hm1 hm2 hm3 hk1 hk2 hk3
  by_cases h1 : 200 < x
  · have d1 : decide ((200 : Int) < (x : Int)) = true := decide_eq_true (by omega)
    have d3 : decide (200 < x) = true := decide_eq_true (by omega)
    clear h1
    go_enter Tryd.func9, Tryd.ntmps9
    go_wp2_with (go_at_call 10; (with_reducible refine (SH.out _ HW.out).mono ?_); rintro e w1 ⟨rfl, hb'⟩; have G1 := Lib.hid hb'; clear hb')
    go_ret
    exact ⟨rfl, G1.out⟩
  · have d1 : decide ((200 : Int) < (x : Int)) = false := decide_eq_false (by omega)
    have d3 : decide (200 < x) = false := decide_eq_false h1
    by_cases h2 : 200 < n
    · have d2 : decide ((200 : Int) < (n : Int)) = true := decide_eq_true (by omega)
      have d4 : decide (200 < n) = true := decide_eq_true h2
      clear h1 h2
      go_enter Tryd.func9, Tryd.ntmps9
      go_wp2_with (go_at_call 10; (with_reducible refine (SH.out _ HW.out).mono ?_); rintro e w1 ⟨rfl, hb'⟩; have G1 := Lib.hid hb'; clear hb')
      go_ret
      exact ⟨rfl, G1.out⟩
    · have d2 : decide ((200 : Int) < (n : Int)) = false := decide_eq_false (by omega)
      have d4 : decide (200 < n) = false := decide_eq_false h2
      by_cases h3 : n = z
      · subst h3
        have HXb : Hid (x ≤ 200) := show x ≤ 200 by omega
        have HNb : Hid (n ≤ 200) := show n ≤ 200 by omega
        have hnb : (n : Int) ≤ 200 := by omega
        have e1 : ((n : Int) != (n : Int)) = false := by rw [bne_eq_false_iff_eq]
        clear h1 h2 hm1' hm2' hm3'
        obtain ⟨P, hP⟩ : ∃ P : Int, 2147483648 = P := ⟨_, rfl⟩
        have HP := Lib.hid hP
        go_enter Tryd.func9, Tryd.ntmps9
        rw [hP]
        clear hP
        go_wp2_with (go_at_call 10; (with_reducible refine (SH.out _ HW.out).mono ?_); rintro e w1 ⟨rfl, hb'⟩; have G1 := Lib.hid hb'; clear hb')
        clear d1 d2 d3 d4 e1
        go_loopw [8, 9] (fun o s wr => ∃ i : Nat, i ≤ n ∧ s = .int .i64 (i : Int) ∧ Hid (Ow .u64 22 W.heap.size wr o (ml i (sF l1 l2))) ∧ Hid (Lw l1 l2 i) ∧ Hid (Bl W wr)) (fun _ s _ => n - (intOf s).toNat)
        case atStart => exact ⟨0, Nat.zero_le _, rfl, Ow.nil _ _ _ _, fun q hq => absurd hq (Nat.not_lt_zero q), G1.out⟩
        case round =>
          obtain ⟨i, hin, rfl, hown, hlw, hb⟩ := hrel
          by_cases hlt : i < n
          · obtain ⟨a1, hA1, hc1⟩ := (HS1.out.bl hb.out).at_ (i := i) (by rw [HN.out]; exact hlt)
            obtain ⟨a2, hA2, hc2⟩ := (HS2.out.bl hb.out).at_ (i := i) (by rw [HZ.out]; exact hlt)
            have hg1 : l1.getD i 0 = l1[i]'(by rw [HN.out]; exact hlt) := getD_in _
            have hg2 : l2.getD i 0 = l2[i]'(by rw [HZ.out]; exact hlt) := getD_in _
            obtain ⟨p, hp⟩ : ∃ d, l1[i]'(by rw [HN.out]; exact hlt) = d := ⟨_, rfl⟩
            obtain ⟨q, hq⟩ : ∃ d, l2[i]'(by rw [HZ.out]; exact hlt) = d := ⟨_, rfl⟩
            rw [hp] at hc1 hg1
            rw [hq] at hc2 hg2
            have gb : (0 : Int) ≤ (i : Int) ∧ (i : Int) < (n : Int) := by omega
            subst hA1
            subst hA2
            clear hp hq
            have hP := HP.out
            by_cases hpl : 2147483648 ≤ p
            · have g1 : decide (P ≤ (p : Int)) = true := decide_eq_true (by omega)
              clear hpl hg1 hg2 hP
              go_wp2
              go_ret
              exact ⟨rfl, hb.out⟩
            · have g1 : decide (P ≤ (p : Int)) = false := decide_eq_false (by omega)
              by_cases hql : 2147483648 ≤ q
              · have g2 : decide (P ≤ (q : Int)) = true := decide_eq_true (by omega)
                clear hpl hql hg1 hg2 hP
                go_wp2
                go_ret
                exact ⟨rfl, hb.out⟩
              · have g2 : decide (P ≤ (q : Int)) = false := decide_eq_false (by omega)
                obtain ⟨u, hu⟩ : ∃ u, p + q = u := ⟨_, rfl⟩
                have k1 : (p : Int) + (q : Int) = (u : Int) := by omega
                have k2 : IntKind.u64.wrap (u : Int) = (u : Int) := IntWalk.u64_in _ (by omega)
                have k3 : IntKind.u64.wrap ((p : Int) + (q : Int)) = (u : Int) := by rw [k1, k2]
                have HS : Hid (ml i (sF l1 l2) ++ [u] = ml (i + 1) (sF l1 l2)) := by
                  show _ = _
                  rw [ml_succ]
                  unfold sF
                  rw [hg1, hg2, hu]
                have HLw : Hid (Lw l1 l2 (i + 1)) := fun t ht => by
                  rcases Nat.lt_or_ge t i with h | h
                  · exact hlw.out t h
                  · obtain rfl : t = i := by omega
                    rw [hg1, hg2]
                    omega
                have hlen : (ml i (sF l1 l2)).length < 1099511627776 := by rw [ml_length]; omega
                have HL := Lib.hid hlen
                clear hpl hql hg1 hg2 hP hu hlw hlen
                go_wp2
                go_region_law (refine step_app_one W wr.drew .u64 33 22 i0 (.int .u64 0) 8 Tryd.underlying33 hi hz0 hz1 hz2 rfl (by decide) rfl (.tmp 56) (.tmp 66) rfl u8 (ml i (sF l1 l2)) u (by simp [Act.eval, Act.put]) (by simp [Act.eval, Act.put]) (ow_drew hown.out) hb.out.drew HL.out ?_; intro v' w' hown' hbl')
                all_goals
                  rw [HS.out] at hown'
                  go_wp2
                  go_roundw
                  case rel => exact ⟨i + 1, by omega, by go_num, hown', HLw, hbl'⟩
                  case measure => simp [intOf] <;> omega
          · have hin' : i = n := by omega
            have hlw' : Hid (Lw l1 l2 n) := by rw [← hin']; exact hlw.out
            have hrw : Hid (Rw .u64 wr u8 (ml n (sF l1 l2))) := by rw [← hin']; exact hown.out.rw
            obtain ⟨s', hs⟩ : ∃ s', ml n (sF l1 l2) = s' := ⟨_, rfl⟩
            obtain ⟨ab, ac, asl⟩ := lw_all HN.out HZ.out hlw'.out
            have hsn : s'.length = n := by rw [← hs, ml_length]
            have hsg : ∀ q, s'.getD q 0 = l1.getD q 0 + l2.getD q 0 := fun q => by rw [← hs]; exact sF_get HN.out HZ.out q
            rw [hs] at hrw asl
            have hxb := HXb.out
            have hnb' := HNb.out
            have hxn := HX.out
            have hn1 := HN.out
            have hn2 := HZ.out
            have RS := hrw
            clear hlw hown hrw hin'
            by_cases ha : All 4294967296 l0
            · obtain ⟨L, hL⟩ : ∃ L, cl l0 l1 = L := ⟨_, rfl⟩
              have hL2 : cl l0 l2 = L := by rw [← hL]; exact cl_same _ _ _ (by omega)
              have hL3 : cl l0 s' = L := by rw [← hL]; exact cl_same _ _ _ (by omega)
              have hLb : L ≤ 400 := by rw [← hL]; unfold cl; split <;> omega
              have HT1 := Lib.hid (fun W v1 v2 hw h1 h2 => times_row l0 s' (by omega) (by omega) ha asl W v1 v2 hw h1 h2)
              have HT2 := Lib.hid (fun W v1 v2 hw h1 h2 => times_agree l0 l1 L hL (by omega) (by omega) ha ab W v1 v2 hw h1 h2)
              have HT3 := Lib.hid (fun W v1 v2 hw h1 h2 => times_agree l0 l2 L hL2 (by omega) (by omega) ha ac W v1 v2 hw h1 h2)
              have HPL : Hid ((cvs l0 l1).length = L) := (cvs_length _ _).trans hL
              have HQL : Hid ((cvs l0 l2).length = L) := (cvs_length _ _).trans hL2
              have HXL : Hid (((cvs l0 s').map tw).length = L) := by show _ = _; rw [List.length_map, cvs_length, hL3]
              have HU : Hid (∀ i, cv l0 l1 x i < bd) := fun i => hxn ▸ cv_bd ha ab (by omega) i
              have HV : Hid (∀ i, cv l0 l2 x i < bd) := fun i => hxn ▸ cv_bd ha ac (by omega) i
              have HUV : Hid (∀ i, cv l0 s' x i = cv l0 l1 x i + cv l0 l2 x i) := fun i => cv_plus l0 l1 l2 s' hsg i x
              have hLi : (L : Int) ≤ 400 := by omega
              have HPS := Lib.hid (fun w v1 v2 h1 h2 => pairs_same v1 v2 ((cvs l0 s').map tw) (by rw [HXL.out]; omega) w h1 h2)
              clear ab ac asl hsn hsg hxb hnb' hxn hn1 hn2 ha hL hL2 hL3 hLb hs
              go_wp2_with (first
                | (go_at_call 19; (with_reducible refine (HT1.out _ _ _ (HW.out.bl hb.out) (R0.out.bl hb.out) RS.out).mono ?_); rintro e w2 ⟨vx, rfl, hr, hb'⟩; have X2 := Lib.hid hr; have G2 := Lib.hid (hb.out.trans hb'); clear hr hb')
                | (go_at_call 19; (with_reducible refine (HT2.out _ _ _ (HW.out.bl G2.out) (R0.out.bl G2.out) (R1.out.bl G2.out)).mono ?_); rintro e w3 ⟨A4, c4, rfl, Y3, hb'⟩; have G3 := Lib.hid (G2.out.trans hb'); have X3 := Lib.hid (X2.out.bl hb'); clear hb')
                | (go_at_call 19; (with_reducible refine (HT3.out _ _ _ (HW.out.bl G3.out) (R0.out.bl G3.out) (R2.out.bl G3.out)).mono ?_); rintro e w4 ⟨A5, c5, rfl, Z4, hb'⟩; have G4 := Lib.hid (G3.out.trans hb'); have X4 := Lib.hid (X3.out.bl hb'); have Y4 := Lib.hid (Y3.out.bl hb'); clear hb'))
              go_loopw [16, 17] (fun o s wr => ∃ i : Nat, i ≤ L ∧ s = .int .i64 (i : Int) ∧ Hid (Owp 24 w4.heap.size wr o (((cvs l0 s').map tw).take i)) ∧ Hid (Bl w4 wr)) (fun _ s _ => L - (intOf s).toNat)
              case atStart => exact ⟨0, Nat.zero_le _, rfl, by show Owp _ _ _ _ (List.take 0 _); rw [List.take_zero]; exact Owp.nil _ _ _, Bl.refl w4⟩
              case round =>
                obtain ⟨k, hkn, rfl, hall, hb2⟩ := hrel
                by_cases hk : k < L
                · obtain ⟨ad, hA4, q1, q2⟩ := (Y4.out.bl hb2.out).at_ (i := k) (by rw [List.length_map, HPL.out]; exact hk)
                  obtain ⟨ae, hA5, q3, q4⟩ := (Z4.out.bl hb2.out).at_ (i := k) (by rw [List.length_map, HQL.out]; exact hk)
                  rw [List.getElem_map, cvs_get, HX.out] at q1 q2 q3 q4
                  have hX : ((cvs l0 s').map tw)[k]'(by rw [HXL.out]; exact hk) = tw (cv l0 l1 x k + cv l0 l2 x k) := by rw [List.getElem_map, cvs_get, HX.out, HUV.out]
                  obtain ⟨p1, m1, p2, m2, sm, cy, t, r, t1, t2, e1, e2, k1, k2, k3, k4, k5, k6, ht, hl1, hl2⟩ := two_tw _ _ (HU.out k) (HV.out k)
                  rw [t1] at q1 q2
                  rw [t2] at q3 q4
                  simp only at q1 q2 q3 q4
                  have KA := Lib.hid (fun W => radd_any m1 m2 0 hl1 hl2 (by decide) W)
                  rw [e1, e2] at KA
                  have HS : Hid (((cvs l0 s').map tw).take k ++ [(r, sm)] = ((cvs l0 s').map tw).take (k + 1)) := by show _ = _; rw [List.take_succ_eq_append_getElem (by rw [HXL.out]; exact hk), hX, ht]
                  have hlen : (((cvs l0 s').map tw).take k).length < 1099511627776 := by rw [List.length_take, HXL.out]; omega
                  have HLn := Lib.hid hlen
                  have gb : (0 : Int) ≤ (k : Int) ∧ (k : Int) < (L : Int) := by omega
                  subst hA4
                  subst hA5
                  clear hX t1 t2 e1 e2 ht hl1 hl2 hlen
                  go_wp2
                  go_quiet ((go_at_call 24; exact quiet_left (KA.out _)))
                  have ha2 := Lib.hid (hall.out.bl ((Bl.refl wr).drewN nq))
                  have hb3 := Lib.hid (hb2.out.drewN nq)
                  obtain ⟨wz, hwz⟩ : ∃ z, wr.drewN nq = z := ⟨_, rfl⟩
                  have y1 : wz.cell? (ad.add (k * 2)) = some (.int .u64 (p1 : Int)) := by rw [← hwz]; exact q1
                  have y2 : wz.cell? (ae.add (k * 2)) = some (.int .u64 (p2 : Int)) := by rw [← hwz]; exact q3
                  rw [hwz] at ha2 hb3 ⊢
                  clear q1 q2 q3 q4 hwz
                  go_wp2
                  go_region_law (refine step_app_pair w4 wz.drew 40 24 j0 (.agg #[.int .u64 0, .int .u64 0]) 16 Tryd.underlying40 hj hy0 hy1 hy2 rfl (by decide) rfl (.tmp 127) (.tmp 143) rfl u16 (((cvs l0 s').map tw).take k) r sm (by simp [Act.eval, Act.put]) (by simp [Act.eval, Act.put]) ha2.out.drew hb3.out.drew HLn.out ?_; intro v' w' hown' hbl')
                  all_goals
                    rw [HS.out] at hown'
                    go_wp2
                    go_roundw
                    case rel => exact ⟨k + 1, by omega, by go_num, hown', hbl'⟩
                    case measure => simp [intOf] <;> omega
                · have hk' : k = L := by omega
                  have hfin : Hid (Pq wr u16 ((cvs l0 s').map tw)) := by
                    have h := hall.out.pq
                    rw [hk', ← HXL.out, List.take_length] at h
                    exact h
                  clear hall hk'
                  go_wp2_with (go_at_call 22; (with_reducible refine (HPS.out _ _ _ (X4.out.bl hb2.out) hfin.out).mono ?_); rintro e w5 ⟨rfl, hb'⟩; have G5 := Lib.hid (G4.out.trans (hb2.out.trans hb')); clear hb')
                  go_ret
                  exact ⟨rfl, G5.out⟩
            · have HT1 := Lib.hid (fun W v1 v2 hw h1 h2 => times_bad9 l0 s' (by omega) (by omega) (fun h => ha h.1) W v1 v2 hw h1 h2)
              have HT2 := Lib.hid (fun W v1 v2 hw h1 h2 => times_bad9 l0 l1 (by omega) (by omega) (fun h => ha h.1) W v1 v2 hw h1 h2)
              have HT3 := Lib.hid (fun W v1 v2 hw h1 h2 => times_bad9 l0 l2 (by omega) (by omega) (fun h => ha h.1) W v1 v2 hw h1 h2)
              clear ab ac asl hsn hsg hxb hnb' hxn hn1 hn2 ha hs
              go_wp2_with (first
                | (go_at_call 19; (with_reducible refine (HT1.out _ _ _ (HW.out.bl hb.out) (R0.out.bl hb.out) RS.out).mono ?_); rintro e w2 ⟨A4, c4, rfl, hb'⟩; have G2 := Lib.hid (hb.out.trans hb'); clear hb')
                | (go_at_call 19; (with_reducible refine (HT2.out _ _ _ (HW.out.bl G2.out) (R0.out.bl G2.out) (R1.out.bl G2.out)).mono ?_); rintro e w3 ⟨A5, c5, rfl, hb'⟩; have G3 := Lib.hid (G2.out.trans hb'); clear hb')
                | (go_at_call 19; (with_reducible refine (HT3.out _ _ _ (HW.out.bl G3.out) (R0.out.bl G3.out) (R2.out.bl G3.out)).mono ?_); rintro e w4 ⟨A6, c6, rfl, hb'⟩; have G4 := Lib.hid (G3.out.trans hb'); clear hb'))
              go_ret
              exact ⟨rfl, G4.out⟩
      · have e1 : ((n : Int) != (z : Int)) = true := by rw [bne_iff_ne]; omega
        clear h1 h2 h3
        go_enter Tryd.func9, Tryd.ntmps9
        go_wp2_with (go_at_call 10; (with_reducible refine (SH.out _ HW.out).mono ?_); rintro e w1 ⟨rfl, hb'⟩; have G1 := Lib.hid hb'; clear hb')
        go_ret
        exact ⟨rfl, G1.out⟩
end Go.Proofs.YtiainhbkoehhjaaDoor
