/-
  KeepFinds, walked.
-/
import Derived.Test.YtdaglbjdgdokpaaDoorPk45
import Derived.Test.YtdaglbjdgdokpaaDoorPk46
namespace Go.Proofs.YtdaglbjdgdokpaaDoor
open Go.RowKit
set_option linter.unusedVariables false
set_option linter.unusedSimpArgs false

theorem keepG {w0 W w : World} {b c : Nat} {v0 v1 v2 v3 v4 : Value} (h : W.cell? ⟨b, 0, none⟩ = some v0 ∧ W.cell? ⟨b, 1, none⟩ = some v1 ∧ W.cell? ⟨c, 0, none⟩ = some v2 ∧ W.cell? ⟨c, 1, none⟩ = some v3 ∧ W.cell? ⟨c, 2, none⟩ = some v4 ∧ b < W.heap.size ∧ c < W.heap.size ∧ Bl w0 W) (g : Bl W w) :
    w.cell? ⟨b, 0, none⟩ = some v0 ∧ w.cell? ⟨b, 1, none⟩ = some v1 ∧ w.cell? ⟨c, 0, none⟩ = some v2 ∧ w.cell? ⟨c, 1, none⟩ = some v3 ∧ w.cell? ⟨c, 2, none⟩ = some v4 ∧ b < w.heap.size ∧ c < w.heap.size ∧ Bl w0 w := by
  obtain ⟨h0, h1, h2, h3, h4, hb, hc, hg⟩ := h
  exact ⟨(g.cell (p := ⟨b, 0, none⟩) hb).trans h0, (g.cell (p := ⟨b, 1, none⟩) hb).trans h1, (g.cell (p := ⟨c, 0, none⟩) hc).trans h2, (g.cell (p := ⟨c, 1, none⟩) hc).trans h3, (g.cell (p := ⟨c, 2, none⟩) hc).trans h4, Nat.lt_of_lt_of_le hb g.size, Nat.lt_of_lt_of_le hc g.size, hg.trans g⟩
theorem fndL_len (jc jd jg : Int) (l : List Fl) : (fndL jc jd jg l).length ≤ l.length := List.length_filterMap_le _ _
set_option maxRecDepth 100000 in
set_option maxHeartbeats 8000000 in
theorem keepFinds_walk (room : Int) (u : Value) (l : List Fl) (hb0 : -9223372036854775808 ≤ room ∧ room ≤ 9223372036854775807) (hz : Szs l) (jc jd jg : Int) (w : World) (hf : Fw w u l) (hT : PowT w) (hE : ErrT w) :
    Calls Tryd.prog 3 #[.agg #[.int .i64 room, u], .agg #[.int .i64 jc, .int .i64 jd, .int .i64 jg]] w fun e w' => e = .returned (.bool true) ∧ Bl w w' := by
  have KS := Lib.hid (fun W (g : Bl w W) => shown16 W (hT.bl g))
  have KR := Lib.hid (fun W (g : Bl w W) => rRight_any room u l W (hf.bl g) hz)
  obtain ⟨A, c, rfl⟩ := fw_shape hf
  obtain ⟨n, hn⟩ : ∃ n, l.length = n := ⟨_, rfl⟩
  have B0 := Lib.hid (two_r w 24 26 [.int .i64 room, .slice A n c] [.int .i64 jc, .int .i64 jd, .int .i64 jg])
  cases hr : rtB room l with
  | false =>
    rw [hr] at KR
    rw [hn] at KR ⊢
    clear hn hr hz hf hT hE hb0
    go_enter Tryd.func3, Tryd.ntmps3
    go_wp2_with (first
      | (go_at_call 5; (with_reducible refine (KS.out _ (((Bl.refl w).alloc _).alloc _)).mono ?_); rintro e w1 ⟨rfl, hb1⟩; have G1 : Hid (Bl w w1) := (((Bl.refl w).alloc _).alloc _).trans hb1; have D1 := Lib.hid (B0.out.1.bl hb1); have J1 := Lib.hid (B0.out.2.bl hb1); have d0 := D1.out.cell 0 rfl; have d1 := D1.out.cell 1 rfl; clear hb1)
      | (go_at_call 6; (with_reducible refine (KR.out _ G1.out).mono ?_); rintro e w2 ⟨rfl, hb2⟩; have G2 : Hid (Bl w w2) := G1.out.trans hb2; have D2 := Lib.hid (D1.out.bl hb2); have J2 := Lib.hid (J1.out.bl hb2); have c0 := D2.out.cell 0 rfl; have c1 := D2.out.cell 1 rfl; have j0 := J2.out.cell 0 rfl; have j1 := J2.out.cell 1 rfl; have j2 := J2.out.cell 2 rfl; clear hb2))
    go_quiet (fail)
    go_wp2
    go_ret
    exact ⟨by first | rfl | simp, G2.out.drewN _⟩
  | true =>
    rw [hr] at KR
    have hrt := rtB_iff.1 hr
    have KF := Lib.hid (fun W (g : Bl w W) => pFind_any room jc jd jg (.slice A l.length c) l W (hf.bl g) hrt.2.1 hz hrt (hT.bl g) (hE.bl g))
    have KG := Lib.hid (fun W (g : Bl w W) => rFind_any room jc jd jg (.slice A l.length c) l W (hf.bl g) hrt.2.1 hz)
    have hfl := fndL_len jc jd jg l
    have hfl2 : (fndL jc jd jg l).length ≤ 64 := Nat.le_trans hfl hrt.2.1
    obtain ⟨RES, hRES⟩ : ∃ z, fndL jc jd jg l = z := ⟨_, rfl⟩
    rw [hRES] at hfl2
    have KF0 := KF.out
    have KG0 := KG.out
    rw [hn, hRES] at KF0 KG0
    have KF := Lib.hid KF0
    have KG := Lib.hid KG0
    have KP : Hid (∀ W v1 v2 l1 l2, PtW W v1 l1 → PtW W v2 l2 → l1.map Pt.r = RES → l2.map Pt.r = RES → Calls Tryd.prog 7 #[v1, v2] W fun e w' => e = .returned (.bool true) ∧ Bl W w') := fun W v1 v2 l1 l2 h1 h2 e1 e2 =>
      rParts_any v1 v2 l1 l2 W h1 h2 (e1.trans e2.symm) (by have := congrArg List.length e1; rw [List.length_map] at this; omega)
    rw [hn] at KR ⊢
    clear KF0 KG0 hn hr hz hf hT hE hb0 hrt hfl hfl2 hRES
    go_enter Tryd.func3, Tryd.ntmps3
    go_wp2_with (first
      | (go_at_call 5; (with_reducible refine (KS.out _ (((Bl.refl w).alloc _).alloc _)).mono ?_); rintro e w1 ⟨rfl, hb1⟩; have G1 : Hid (Bl w w1) := (((Bl.refl w).alloc _).alloc _).trans hb1; have D1 := Lib.hid (B0.out.1.bl hb1); have J1 := Lib.hid (B0.out.2.bl hb1); have d0 := D1.out.cell 0 rfl; have d1 := D1.out.cell 1 rfl; clear hb1)
      | (go_at_call 6; (with_reducible refine (KR.out _ G1.out).mono ?_); rintro e w2 ⟨rfl, hb2⟩; have G2 : Hid (Bl w w2) := G1.out.trans hb2; have D2 := Lib.hid (D1.out.bl hb2); have J2 := Lib.hid (J1.out.bl hb2); have c0 := D2.out.cell 0 rfl; have c1 := D2.out.cell 1 rfl; have j0 := J2.out.cell 0 rfl; have j1 := J2.out.cell 1 rfl; have j2 := J2.out.cell 2 rfl; clear hb2))
    have HQ0 : Hid (w2.cell? ⟨w.heap.size, 0, none⟩ = some (.int .i64 room) ∧ w2.cell? ⟨w.heap.size, 1, none⟩ = some (.slice A n c) ∧ w2.cell? ⟨w.heap.size + 1, 0, none⟩ = some (.int .i64 jc) ∧ w2.cell? ⟨w.heap.size + 1, 1, none⟩ = some (.int .i64 jd) ∧ w2.cell? ⟨w.heap.size + 1, 2, none⟩ = some (.int .i64 jg) ∧ w.heap.size < w2.heap.size ∧ w.heap.size + 1 < w2.heap.size ∧ Bl w w2) := ⟨c0, c1, j0, j1, j2, D2.out.lt, J2.out.lt, G2.out⟩
    go_region_held3 (fun W => W.cell? ⟨w.heap.size, 0, none⟩ = some (.int .i64 room) ∧ W.cell? ⟨w.heap.size, 1, none⟩ = some (.slice A n c) ∧ W.cell? ⟨w.heap.size + 1, 0, none⟩ = some (.int .i64 jc) ∧ W.cell? ⟨w.heap.size + 1, 1, none⟩ = some (.int .i64 jd) ∧ W.cell? ⟨w.heap.size + 1, 2, none⟩ = some (.int .i64 jg) ∧ w.heap.size < W.heap.size ∧ w.heap.size + 1 < W.heap.size ∧ Bl w W)
      (first | assumption | exact HQ0.out | exact keepG HQ0.out (Bl.refl _).drew | exact keepG ‹_› hb)
      (first
       | (go_at_call 8; (with_reducible refine (KF.out _ (And.right (And.right (And.right (And.right (And.right (And.right (And.right (by assumption))))))))).mono ?_); rintro e w3 ⟨v1, l1, rfl, e1, p1, hb⟩; have P1 := Lib.hid p1; clear p1)
       | (go_at_call 9; (with_reducible refine (KG.out _ (And.right (And.right (And.right (And.right (And.right (And.right (And.right (by assumption))))))))).mono ?_); rintro e w4 ⟨v2, l2, rfl, e2, p2, hb⟩; have P2 := Lib.hid p2; have P3 := Lib.hid (P1.out.bl hb); clear p2)
       | (go_at_call 7; (with_reducible refine (KP.out _ _ _ _ _ P3.out P2.out e1 e2).mono ?_); rintro e w5 ⟨rfl, hb⟩))
    go_wp2
    go_ret
    exact ⟨by first | rfl | simp, And.right (And.right (And.right (And.right (And.right (And.right (And.right (by assumption)))))))⟩
end Go.Proofs.YtdaglbjdgdokpaaDoor
