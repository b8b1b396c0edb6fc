/-
  Package quot at any length that the form allows (2^44 words at most): Div. (Printed by gen/quz.py.)
-/
import Derived.Test.YtdoohlehglakfaaPk33
import Derived.Test.YtdoohlehglakfaaPk34
import Derived.Test.YtdoohlehglakfaaPk29
namespace Go.Proofs.Ytdoohlehglakfaa
open Go.RowKit Go.Shelf
set_option linter.unusedVariables false
set_option linter.unusedSimpArgs false

theorem pdivq_anyZ (Wd w3 : World) (g L pD m N D A : Nat) (vd : Value) (dl row0 : List Nat) (hg : Wd.heap.size + 1 = g) (h3 : w3.heap.size = Wd.heap.size + 2) (bk : Bk .u64 33 w3 g row0) (hlen : row0.length = L) (hall : All 18446744073709551616 row0) (bl : Bl Wd w3)
    (bN : Boxed w3 Wd.heap.size 3 (.int .i64 ((m + 1 : Nat) : Int))) (bD : Boxed Wd pD 22 vd) (hv : Rw .u64 Wd vd dl) (hdl : All 18446744073709551616 dl) (hm : dl.length = m + 1) (hlast : ∀ h : m < dl.length, dl[m] ≠ 0)
    (hL : L ≤ 17592186044416) (hNL : N + (m + 1) = L) (hD : val 18446744073709551616 dl = D) (hDp : 0 < D) (hval : val 18446744073709551616 row0 = A) (hlow : val 18446744073709551616 (row0.drop N) < D) :
    Calls Try.prog 13 #[.int .i64 (N : Int), .func (.func 14) #[] #[.pointer (some ⟨w3.heap.size, 0, none⟩), .pointer (some ⟨Wd.heap.size, 0, none⟩), .pointer (some ⟨pD, 0, none⟩)]] (w3.alloc (.cells #[.slice (some ⟨g, 0, none⟩) L L] 22))
      (QuEnd (JDv Wd g L w3.heap.size Wd.heap.size pD (m + 1) vd N D A) (w3.alloc (.cells #[.slice (some ⟨g, 0, none⟩) L L] 22)) N) := by
  have hpD := bD.lt
  refine pquotD_anyZ w3.heap.size Wd.heap.size pD N g (by omega) _ (by simp; omega) _ (jdv_stays (by simp; omega) (by simp) (by simp; omega) (by simp; omega) (by simp; omega)) ?_ ?_ ?_
  · rintro tr W ⟨row, h, -⟩
    exact ⟨_, _, _, h.bk⟩
  · intro tr i W hi hJ _
    exact pdivc_anyZ Wd W g L w3.heap.size Wd.heap.size pD m N D A vd dl tr i (by omega) hv hdl hm hlast hL hNL hD hDp hi (by omega) hJ
  · have bD3 : Boxed w3 pD 22 vd := (bl.block _ hpD).trans bD
    exact ⟨row0, ⟨bk.bl ((Bl.refl _).alloc _), hlen, hall, Boxed.new _ _ _, bN.alloc _, bD3.alloc _, bl.alloc _⟩, dvs_start hval hlow⟩

set_option maxRecDepth 100000 in
set_option maxHeartbeats 8000000 in
theorem pDivZ (W : World) (va vd : Value) (A D : Nat) (ja jd : Nat) (ha : NuZ W va A) (hd : NuZ W vd D) (hDp : 0 < D) (hsa : Sz ja A) (hsd : Sz jd D) (hja : ja < 17592186044415) (hjd : jd < 17592186044415) :
    Calls Try.prog 6 #[va, vd] W (RwEnd3 W (dig 18446744073709551616 (A / D)) (dig 18446744073709551616 (A % D)) 0) := by
  have KA := Lib.hid (fun W' (g : Bl W W') => pNormZ W' va A (ha.bl g))
  have KD := Lib.hid (fun W' (g : Bl W W') => pNormZ W' vd D (hd.bl g))
  obtain ⟨la, ⟨B1, c1, rfl, _⟩, -⟩ := ha
  obtain ⟨ld, ⟨B2, c2, rfl, _⟩, -⟩ := hd
  obtain ⟨l, hl⟩ : ∃ l, dig 18446744073709551616 A = l := ⟨_, rfl⟩
  obtain ⟨d, hd⟩ : ∃ l, dig 18446744073709551616 D = l := ⟨_, rfl⟩
  rw [hl] at KA
  rw [hd] at KD
  obtain ⟨j, hj⟩ : ∃ n, l.length = n := ⟨_, rfl⟩
  obtain ⟨n, hn⟩ : ∃ n, d.length = n := ⟨_, rfl⟩
  have HJ := Lib.hid hj
  have HN := Lib.hid hn
  have hjl : j < 17592186044415 := by have := dig_len_of_lt 18446744073709551616 (by decide) A ja hsa; rw [hl, hj] at this; omega
  have hnl : n < 17592186044415 := by have := dig_len_of_lt 18446744073709551616 (by decide) D jd hsd; rw [hd, hn] at this; omega
  have hnp : 0 < n := by rw [← hn, ← hd]; exact dig_len_pos 18446744073709551616 (by decide) D hDp
  obtain ⟨m, hm⟩ : ∃ m, n = m + 1 := ⟨n - 1, by omega⟩
  obtain ⟨L, hL⟩ : ∃ L, max j n + 1 = L := ⟨_, rfl⟩
  obtain ⟨N, hNN⟩ : ∃ N, L - n = N := ⟨_, rfl⟩
  have rL : max (j : Int) (n : Int) + 1 = (L : Int) := by omega
  have rN : (L : Int) - (n : Int) = (N : Int) := by omega
  have Lb : (L : Int) ≤ 17592186044416 := by omega
  have nb : (n : Int) ≤ 17592186044416 := by omega
  have jb : (j : Int) ≤ 17592186044416 := by omega
  have n0 : ((n : Int) == 0) = false := by rw [beq_eq_false_iff_ne]; omega
  have HLL : Hid (l.length ≤ L ∧ L < 35184372088832) := by show _ ∧ _; omega
  have HLN : Hid (L ≤ 17592186044416 ∧ N + (m + 1) = L ∧ j + 1 ≤ L ∧ n = m + 1 ∧ N < 17592186044416 ∧ L < 17592186044416) := by show _ ∧ _; omega
  have hdall := all_dig 18446744073709551616 (by decide) D
  have hdval := val_dig 18446744073709551616 (by decide) D
  have hdge := dig_ge 18446744073709551616 (by decide) D hDp
  have hdnm := nm_dig 18446744073709551616 (by decide) D
  have haall := all_dig 18446744073709551616 (by decide) A
  have haval := val_dig 18446744073709551616 (by decide) A
  rw [hd] at hdall hdval hdge hdnm
  rw [hl] at haall haval
  rw [hn, hm, Nat.add_sub_cancel] at hdge
  have HD2 : Hid (All 18446744073709551616 d ∧ d.length = m + 1 ∧ (∀ h : m < d.length, d[m] ≠ 0) ∧ val 18446744073709551616 d = D) := ⟨hdall, by omega, fun h => by
    have := hdnm (List.length_pos_iff.1 (by omega))
    rw [List.getLast_eq_getElem] at this
    have e : d.length - 1 = m := by omega
    simpa only [e] using this, hdval⟩
  have HDS := Lib.hid (div_start haall haval (L := L) (N := N) (m := m) (by omega) HLN.out.2.1 hdge)
  clear hj hn hjl hnl hnp hm hL hNN hsa hsd hja hjd hdall hdval hdge hdnm haall haval
  go_enter Try.func6, Try.ntmps6
  go_wp2
  have bx0 : Boxed (W.alloc (.cells #[.slice B2 ld.length c2] 22)) W.heap.size 22 (.slice B2 ld.length c2) := Boxed.new W _ _
  have HX0 := Lib.hid bx0
  go_region_with (first
    | (go_at_call 11; (with_reducible refine (KA.out _ ((Bl.refl W).alloc _).drew).mono ?_); rintro e w1 ⟨v1, rfl, hr1, hb1⟩; have HB1 := Lib.hid (((Bl.refl W).alloc _).drew.trans hb1); have HR1 := Lib.hid hr1; obtain ⟨A1, k1, e1⟩ := rw_shape hr1 HJ.out; subst e1; have bx1 : Boxed w1 W.heap.size 22 (.slice B2 ld.length c2) := (hb1.block _ HX0.out.lt).trans HX0.out; have hc1 := bx1.cell; have HX1 := Lib.hid bx1; clear hr1 hb1 bx1)
    | (go_at_call 11; (with_reducible refine (KD.out _ HB1.out).mono ?_); rintro e w2 ⟨v2, rfl, hr2, hb2⟩; have HB2 := Lib.hid (HB1.out.trans hb2); have HR2 := Lib.hid hr2; obtain ⟨A2, k2, e2⟩ := rw_shape hr2 HN.out; subst e2; have HR1' := Lib.hid (HR1.out.bl hb2); have bx2 : Boxed w2 W.heap.size 22 (.slice B2 ld.length c2) := (hb2.block _ HX1.out.lt).trans HX1.out; have hc2 := bx2.cell; have hf2 := bx2.frozen; have HX2 := Lib.hid bx2; clear hr2 hb2 bx2))
  all_goals
    obtain ⟨Wd, hWd⟩ : ∃ Wd, w2.setCell ⟨W.heap.size, 0, none⟩ (.slice A2 n k2) = Wd := ⟨_, rfl⟩
    have RA : Hid (Rw .u64 Wd (.slice A1 j k1) l) := by
      have := rw_boxq HR1'.out HX2.out (fun z h => by cases h) (.slice A2 n k2)
      rwa [hWd] at this
    have RD : Hid (Rw .u64 Wd (.slice A2 n k2) d) := by
      have := rw_boxq HR2.out HX2.out (fun z h => by cases h) (.slice A2 n k2)
      rwa [hWd] at this
    have BX : Hid (Boxed Wd W.heap.size 22 (.slice A2 n k2)) := by
      have := HX2.out.set (.slice A2 n k2)
      rwa [hWd] at this
    have BW : Hid (Bl W Wd) := by
      have := HB2.out.setCell (p := ⟨W.heap.size, 0, none⟩) (Nat.le_refl _) (.slice A2 n k2)
      rwa [hWd] at this
    have hcd := BX.out.cell
    rw [hWd]
    clear hWd HX2 hc2 hf2 HR1' HR2 HB2 HR1 HB1 KA KD HX0 HX1 hc1
    obtain ⟨g, eg⟩ : ∃ g, Wd.heap.size + 1 = g := ⟨_, rfl⟩
    have hWW : W.heap.size < Wd.heap.size := BX.out.lt
    have KW : Hid (Calls Try.prog 12 #[.slice A1 j k1, .int .i64 (L : Int)] (Wd.alloc (.cells #[.int .i64 (n : Int)] 3)) fun e w3 => e = .returned (.slice (some ⟨g, 0, none⟩) L L) ∧
        (Bk .u64 33 w3 g (l ++ List.replicate (L - l.length) 0) ∧ Bl Wd w3 ∧ Boxed w3 Wd.heap.size 3 (.int .i64 (n : Int)) ∧ w3.heap.size = Wd.heap.size + 2)) := by
      refine (pqwidened_anyZ (.slice A1 j k1) l L HLL.out.1 HLL.out.2 _ (RA.out.bl ((Bl.refl Wd).alloc _))).mono ?_
      rintro e w3 ⟨rfl, h1, h2, h3⟩
      rw [World.size_alloc, eg] at h1
      rw [World.size_alloc] at h3
      refine ⟨by rw [World.size_alloc, eg], h1, ((Bl.refl Wd).alloc _).trans h2, (h2.block _ (by simp)).trans (Boxed.new Wd _ _), h3⟩
    have KQ := Lib.hid (fun w3 (h : _ ∧ _ ∧ _ ∧ w3.heap.size = _) => pdivq_anyZ Wd w3 g L W.heap.size m N D A (.slice A2 n k2) d (l ++ List.replicate (L - l.length) 0) eg h.2.2.2 h.1 HDS.out.2.2.2 HDS.out.2.2.1 h.2.1 (HLN.out.2.2.2.1 ▸ h.2.2.1) BX.out RD.out HD2.out.1 HD2.out.2.1 HD2.out.2.2.1 HLN.out.1 HLN.out.2.1 HD2.out.2.2.2 hDp HDS.out.1 HDS.out.2.1)
    have HEG := Lib.hid eg
    have HWW := Lib.hid hWW
    clear eg hWW
    go_wp2_with (first
      | (go_at_call 12; (with_reducible refine KW.out.mono ?_); rintro e w3 ⟨rfl, h3⟩; have H3 := Lib.hid h3; have hcn := (Boxed.alloc h3.2.2.1 (.cells #[.slice (some ⟨g, 0, none⟩) L L] 22)).cell; have KQ1 := Lib.hid (KQ.out w3 h3); clear h3)
      | (go_at_call 13; (with_reducible refine KQ1.out.mono ?_); rintro e w4 ⟨v, tr, rfl, htr, hall4, hrw, ⟨row, hB, hS⟩, hsz4⟩; obtain ⟨e1, e2⟩ := dvs_end hS htr; rw [e1] at hrw; have hcL := hB.bL.cell; have HRW := Lib.hid hrw; have HBL := Lib.hid hB.bl; have KN := Lib.hid (fun W' (g' : Bl w4 W') => pNormZ W' _ _ (NuZ.bl (e2 ▸ NuZ.mk (hB.bk.rw (n := L) hB.len.symm (by unfold maxLen; omega)) hB.all (by rw [hB.len]; exact HLN.out.2.2.2.2.2)) g')); clear hB hS e1 e2 hall4 hrw htr)
      | (go_at_call 11; (with_reducible refine (KN.out _ (Bl.refl _)).mono ?_); rintro e w5 ⟨v5, rfl, hr5, hb5⟩))
    go_ret3
    exact RwEnd3.mk (HRW.out.bl hb5) hr5 ((BW.out.trans HBL.out).trans hb5)

set_option maxRecDepth 100000 in
set_option maxHeartbeats 8000000 in
theorem pDiv0Z (W : World) (va vd : Value) (A : Nat) (ha : NuZ W va A) (hd : NuZ W vd 0) :
    Calls Try.prog 6 #[va, vd] W (RwEnd3 W [] [] 2) := by
  have KA := Lib.hid (fun W' (g : Bl W W') => pNormZ W' va A (ha.bl g))
  have KD := Lib.hid (fun W' (g : Bl W W') => pNormZ W' vd 0 (hd.bl g))
  rw [dig_zero] at KD
  obtain ⟨la, ⟨B1, c1, rfl, _⟩, -⟩ := ha
  obtain ⟨ld, ⟨B2, c2, rfl, _⟩, -⟩ := hd
  obtain ⟨l, hl⟩ : ∃ l, dig 18446744073709551616 A = l := ⟨_, rfl⟩
  rw [hl] at KA
  obtain ⟨j, hj⟩ : ∃ n, l.length = n := ⟨_, rfl⟩
  have HJ := Lib.hid hj
  clear hj hl
  go_enter Try.func6, Try.ntmps6
  go_wp2
  have bx0 : Boxed (W.alloc (.cells #[.slice B2 ld.length c2] 22)) W.heap.size 22 (.slice B2 ld.length c2) := Boxed.new W _ _
  have HX0 := Lib.hid bx0
  go_region_with (first
    | (go_at_call 11; (with_reducible refine (KA.out _ ((Bl.refl W).alloc _).drew).mono ?_); rintro e w1 ⟨v1, rfl, hr1, hb1⟩; have HB1 := Lib.hid (((Bl.refl W).alloc _).drew.trans hb1); have HR1 := Lib.hid hr1; obtain ⟨A1, k1, e1⟩ := rw_shape hr1 HJ.out; subst e1; have bx1 : Boxed w1 W.heap.size 22 (.slice B2 ld.length c2) := (hb1.block _ HX0.out.lt).trans HX0.out; have hc1 := bx1.cell; have HX1 := Lib.hid bx1; clear hr1 hb1 bx1)
    | (go_at_call 11; (with_reducible refine (KD.out _ HB1.out).mono ?_); rintro e w2 ⟨v2, rfl, hr2, hb2⟩; have HB2 := Lib.hid (HB1.out.trans hb2); have HR2 := Lib.hid hr2; obtain ⟨A2, k2, e2⟩ := rw_shape hr2 (show ([] : List Nat).length = 0 from rfl); subst e2; have bx2 : Boxed w2 W.heap.size 22 (.slice B2 ld.length c2) := (hb2.block _ HX1.out.lt).trans HX1.out; have hc2 := bx2.cell; have hf2 := bx2.frozen; have HX2 := Lib.hid bx2; clear hr2 hb2 bx2))
  all_goals
    have BX : Hid (Boxed (w2.setCell ⟨W.heap.size, 0, none⟩ (.slice A2 0 k2)) W.heap.size 22 (.slice A2 0 k2)) := HX2.out.set _
    have BW : Hid (Bl W (w2.setCell ⟨W.heap.size, 0, none⟩ (.slice A2 0 k2))) := HB2.out.setCell (p := ⟨W.heap.size, 0, none⟩) (Nat.le_refl _) _
    have hcd := BX.out.cell
    clear HX2 hc2 hf2 HR2 HB2 HR1 HB1 KA KD HX0 HX1 hc1
    go_wp2
    go_ret3
    exact RwEnd3.mk (Rw.nil _ _) (Rw.nil _ _) (BW.out.alloc _)

end Go.Proofs.Ytdoohlehglakfaa
