/-
  The document's Find of layer 16.
-/
import Derived.Test.YtdaglbjdgdokpaaDoorPk44
namespace Go.Proofs.YtdaglbjdgdokpaaDoor
open Go.RowKit
set_option linter.unusedVariables false
set_option linter.unusedSimpArgs false

theorem fd_step (jc jd jg : Int) {l : List Fl} {i : Nat} (hi : i < l.length) : fndL jc jd jg (l.take (i + 1)) = fndL jc jd jg (l.take i) ++ (match fnd1 jc jd jg l[i] with | none => [] | some r => [r]) := by
  unfold fndL
  rw [List.take_add_one, List.getElem?_eq_getElem hi, List.filterMap_append]
  congr 1
  show [l[i]].filterMap _ = _
  rw [List.filterMap_cons]
  cases fnd1 jc jd jg l[i] <;> rfl
theorem keepF {w0 W w : World} {b c : Nat} {v0 v1 v2 : Value} (h : W.cell? ⟨b, 0, none⟩ = some v0 ∧ W.cell? ⟨c, 0, none⟩ = some v1 ∧ W.cell? ⟨c, 1, none⟩ = some v2 ∧ b < W.heap.size ∧ c < W.heap.size ∧ Bl w0 W) (g : Bl W w) :
    w.cell? ⟨b, 0, none⟩ = some v0 ∧ w.cell? ⟨c, 0, none⟩ = some v1 ∧ w.cell? ⟨c, 1, none⟩ = some v2 ∧ b < w.heap.size ∧ c < w.heap.size ∧ Bl w0 w := by
  obtain ⟨h0, h1, h2, hb, hc, hg⟩ := h
  exact ⟨(g.cell (p := ⟨b, 0, none⟩) hb).trans h0, (g.cell (p := ⟨c, 0, none⟩) hc).trans h1, (g.cell (p := ⟨c, 1, none⟩) hc).trans h2, Nat.lt_of_lt_of_le hb g.size, Nat.lt_of_lt_of_le hc g.size, hg.trans g⟩
/-- How a string begins. -/
theorem str_head (s : ByteArray) : (s.size = 0 ∧ isC s = false) ∨ ∃ x : Nat, x < 256 ∧ 0 < s.size ∧ isC s = decide (x = 99) ∧ ∀ W, (Instr.index 9 (.string s) (.int .i64 0)).run Tryd.prog W = .ok (.int .u8 (x : Int)) W := by
  obtain ⟨⟨l⟩⟩ := s
  cases l with
  | nil => exact .inl ⟨rfl, by unfold isC; rw [ByteArray.toList_mk]⟩
  | cons y r =>
    refine .inr ⟨y.toNat, UInt8.toNat_lt y, Nat.succ_pos _, ?_, fun W => ?_⟩
    · unfold isC
      rw [ByteArray.toList_mk]
      show (y == 99) = _
      rw [Bool.eq_iff_iff, beq_iff_eq, decide_eq_true_eq]
      constructor
      · intro e; rw [e]; rfl
      · intro e; exact UInt8.toNat_inj.1 e
    · rw [run_index_string W 9 _ .i64 0 Tryd.underlying9, dif_pos ⟨by decide, by show (0 : Int) < ((r.length + 1 : Nat) : Int); omega⟩]
      rfl
set_option maxRecDepth 100000 in
set_option maxHeartbeats 8000000 in
theorem rFind_any (room jc jd jg : Int) (v : Value) (l : List Fl) (w : World) (hv : Fw w v l) (hl : l.length ≤ 64) (hz : Szs l) :
    Calls Tryd.prog 9 #[.agg #[.int .i64 room, v], .agg #[.int .i64 jc, .int .i64 jd, .int .i64 jg]] w (PtEnd w (fndL jc jd jg l)) := by
  have KO0 := Lib.hid (fun s ha hb W => rof_any s jc jd jg ha hb W)
  have KN0 := Lib.hid (fun n m hn hm W => rName_any n m hn hm W)
  have HZ := Lib.hid hz
  obtain ⟨n, hn⟩ : ∃ n, l.length = n := ⟨_, rfl⟩
  have HL := Lib.hid hn
  have HNB := Lib.hid (show n ≤ 64 by omega)
  have nb : (n : Int) ≤ 64 := by omega
  obtain ⟨A, c, rfl, _, _, _, hx⟩ := fw_open hv hn
  have HX := Lib.hid hx
  have HEND : Hid (fndL jc jd jg (l.take n) = fndL jc jd jg l) := by rw [List.take_of_length_le (Nat.le_of_eq hn)]; exact rfl
  obtain ⟨RES, hRES⟩ : ∃ z, fndL jc jd jg l = z := ⟨_, rfl⟩
  rw [hRES] at HEND ⊢
  have B0 := Lib.hid (two_r w 24 26 [.int .i64 room, .slice A n c] [.int .i64 jc, .int .i64 jd, .int .i64 jg])
  have a43 := Tryd.isAgg43
  have z43 := Tryd.sizeOf43
  have a39 := Tryd.isAgg39
  have z39 := Tryd.sizeOf39
  clear hv hl hz hn hx hRES
  go_enter Tryd.func9, Tryd.ntmps9
  go_wp2
  obtain ⟨W0, hW0⟩ : ∃ W0, ((w.alloc (.cells #[.int .i64 room, .slice A n c] 24)).alloc (.cells #[.int .i64 jc, .int .i64 jd, .int .i64 jg] 26)) = W0 := ⟨_, rfl⟩
  have G0 : Hid (Bl w W0) := by show Bl w W0; rw [← hW0]; exact ((Bl.refl w).alloc _).alloc _
  have B1 : Hid (Bq W0 w.heap.size 24 [.int .i64 room, .slice A n c] ∧ Bq W0 (w.heap.size + 1) 26 [.int .i64 jc, .int .i64 jd, .int .i64 jg]) := by show _ ∧ _; rw [← hW0]; exact B0.out
  rw [hW0]
  clear hW0 B0
  have D1 := Lib.hid B1.out.1
  have J1 := Lib.hid B1.out.2
  have HX1 := Lib.hid (HX.out.bl G0.out)
  clear B1 HX
  go_loopw [5, 6] (fun pv s wr => ∃ i : Nat, i ≤ n ∧ s = .int .i64 (i : Int) ∧ ∃ (pl : List Pt) (k : Nat) (Ag : Option Addr) (cg : Nat), pv = .slice Ag k cg ∧ Hid (pl.length = k) ∧ Hid (k ≤ i) ∧ Hid (pl.map Pt.r = fndL jc jd jg (l.take i)) ∧ Hid (PtO W0.heap.size wr (.slice Ag k cg) pl) ∧ Hid (Bl W0 wr)) (fun _ s _ => n - (intOf s).toNat)
  case atStart => exact ⟨0, Nat.zero_le _, rfl, [], 0, none, 0, rfl, rfl, Nat.le_refl _, rfl, PtO.nil _ _, Bl.refl _⟩
  case round =>
    obtain ⟨i, hin, rfl, pl, k, Ag, cg, rfl, hk, hki, hpl, ho, hb⟩ := hrel
    have DR := Lib.hid (D1.out.bl hb.out)
    have JR := Lib.hid (J1.out.bl hb.out)
    have d0 := DR.out.cell 0 rfl
    have d1 := DR.out.cell 1 rfl
    by_cases hlt : i < n
    · have hil : i < l.length := by rw [HL.out]; exact hlt
      have hzf := HZ.out _ (List.getElem_mem hil)
      obtain ⟨b1, o1, hA1, hc1, hc2, hc3⟩ := HX1.out.at_ hil
      have hab := World.block_lt_of_cell? W0 _ hc1
      have hst := fd_step jc jd jg hil
      obtain ⟨f, ef⟩ : ∃ f, l[i] = f := ⟨_, rfl⟩
      rw [ef] at hc1 hc2 hc3 hzf hst
      obtain ⟨S, D, SF⟩ := f
      dsimp only at hc1 hc2 hc3 hzf
      have c1 := (hb.out.cell (p := ⟨b1, o1 + i * 3, none⟩) hab).trans hc1
      have c2 := (hb.out.cell (p := ⟨b1, o1 + i * 3 + 1, none⟩) hab).trans hc2
      have c3 := (hb.out.cell (p := ⟨b1, o1 + i * 3 + 2, none⟩) hab).trans hc3
      have b2 : (0 : Int) ≤ (i : Int) ∧ (i : Int) < (n : Int) := by omega
      have HI : Hid (i + 1 ≤ n) := hlt
      have HKI := Lib.hid (show k < 1000 by have := hki.out; have := HNB.out; omega)
      have JF := Lib.hid (JR.out.alloc (.cells #[.string S, .string D, .string SF] 39))
      have j0 := JF.out.cell 0 rfl
      have j1 := JF.out.cell 1 rfl
      have j2 := JF.out.cell 2 rfl
      have HST := Lib.hid hst
      subst hA1
      clear hc1 hc2 hc3 hab hst ef hil hlt
      rcases str_head S with ⟨hs0, hcf⟩ | ⟨x, hx256, hs1, hcx, xi⟩
      · have hnone : fnd1 jc jd jg ⟨S, D, SF⟩ = none := fnd1_not hcf
        rw [hnone] at HST
        clear hnone hcf hzf
        go_wp2
        go_roundw
        case rel => exact ⟨i + 1, HI.out, by go_num, pl, k, Ag, cg, rfl, hk.out, Nat.le_succ_of_le hki.out, hpl.out.trans (HST.out.trans (List.append_nil _)).symm, ho.out.bl ((Bl.refl _).alloc _), hb.out.alloc _⟩
        case measure => have := HI.out; simp [intOf] <;> omega
      · obtain ⟨z, hz⟩ : ∃ z, S.size = z := ⟨_, rfl⟩
        rw [hz] at hs1 hzf
        have z0 : ¬ ((z : Int) < 1) := by omega
        by_cases hx : x = 99
        · subst hx
          have hisC : isC S = true := hcx
          have hfo : fnd1 jc jd jg ⟨S, D, SF⟩ = _ := fnd1_of jc jd jg (d := D) hisC SF
          have hDl : (ubs D).length ≤ 140737488355328 := by
            unfold ubs
            rw [List.length_map]
            have h := hzf.2.1
            have e : D.toList.length = D.size := by obtain ⟨⟨D⟩⟩ := D; rw [ByteArray.toList_mk]; rfl
            omega
          have KO1 := fun W => KO0.out (ubs D) (ubs_all D) hDl W
          rw [bs_ubs] at KO1
          obtain ⟨p, q, hp1, hq1, ef, et⟩ := ofE_sm jc jd jg (ubs_all D)
          obtain ⟨X, hX⟩ : ∃ X, ofE jc jd jg (decB (ubs D)) = X := ⟨_, rfl⟩
          rw [hX] at hfo KO1 ef et
          obtain ⟨N, con, dgs, gua, frm, til, lp, lq, lt, mb⟩ := X
          dsimp only at hfo ef et
          subst ef; subst et
          have KO := Lib.hid KO1
          have KN1 := fun W => KN0.out p q (by omega) (by omega) W
          obtain ⟨M, eM⟩ : ∃ M, nmB p q = M := ⟨_, rfl⟩
          rw [eM] at KN1 hfo
          have KN := Lib.hid KN1
          have HFO := Lib.hid hfo
          clear KO1 KN1 hX eM hfo hzf hDl hp1 hq1 hcx hisC hx256 hs1
          by_cases hN : N = 0
          · subst hN
            have t0 : (((0 : Nat) : Int) == 0) = true := rfl
            by_cases hM : M = S
            · have hsome : fnd1 jc jd jg ⟨S, D, SF⟩ = some ⟨con, dgs, gua, (p : Int), (q : Int), lp, lq, lt, mb⟩ := by rw [HFO.out, if_pos ⟨rfl, hM⟩]
              rw [hsome] at HST
              have xb : (M.toList == S.toList) = true := sEq_iff.2 hM
              clear HFO hsome hM
              go_wp2_with (first
                | (go_at_call 16; (with_reducible refine (KO.out _).mono ?_); rintro e w3 ⟨vp, vq, vt, rfl, hp, hq, ht, hb3⟩; obtain ⟨Ap, cp, ep⟩ := rw_open hp rfl; obtain ⟨Aq, cq, eq⟩ := rw_open hq rfl; obtain ⟨At, ct, et⟩ := rw_open ht rfl; dsimp only at ep eq et hp hq ht; subst ep; subst eq; subst et; have G3 : Hid (Bl W0 w3) := (hb.out.alloc (.cells #[.string S, .string D, .string SF] 39)).trans hb3; have O3 : Hid (PtO W0.heap.size w3 (.slice Ag k cg) pl) := (ho.out.bl ((Bl.refl _).alloc (.cells #[.string S, .string D, .string SF] 39))).bl hb3; have F3 := Lib.hid ((Bq.new wr 39 [.string S, .string D, .string SF]).bl hb3); have X3 : Hid (Pt.ok w3 ⟨⟨con, dgs, gua, (p : Int), (q : Int), lp, lq, lt, mb⟩, .slice Ap lp.length cp, .slice Aq lq.length cq, .slice At lt.length ct⟩) := ⟨hp, hq, ht⟩; clear hb3 hp hq ht; (try dsimp only [parV]); refine Hid.out ?_))
              refine Lib.hid ?_
              go_wp2
              have HQ0 : Hid ((w3.alloc (.cells #[.int .i64 (p : Int), .int .i64 (q : Int), .slice Ap lp.length cp, .slice Aq lq.length cq, .slice At lt.length ct, .bool mb] 43)).cell? ⟨wr.heap.size, 0, none⟩ = some (.string S) ∧ (w3.alloc (.cells #[.int .i64 (p : Int), .int .i64 (q : Int), .slice Ap lp.length cp, .slice Aq lq.length cq, .slice At lt.length ct, .bool mb] 43)).cell? ⟨w3.heap.size, 0, none⟩ = some (.int .i64 (p : Int)) ∧ (w3.alloc (.cells #[.int .i64 (p : Int), .int .i64 (q : Int), .slice Ap lp.length cp, .slice Aq lq.length cq, .slice At lt.length ct, .bool mb] 43)).cell? ⟨w3.heap.size, 1, none⟩ = some (.int .i64 (q : Int)) ∧ wr.heap.size < (w3.alloc (.cells #[.int .i64 (p : Int), .int .i64 (q : Int), .slice Ap lp.length cp, .slice Aq lq.length cq, .slice At lt.length ct, .bool mb] 43)).heap.size ∧ w3.heap.size < (w3.alloc (.cells #[.int .i64 (p : Int), .int .i64 (q : Int), .slice Ap lp.length cp, .slice Aq lq.length cq, .slice At lt.length ct, .bool mb] 43)).heap.size ∧ Bl w3 (w3.alloc (.cells #[.int .i64 (p : Int), .int .i64 (q : Int), .slice Ap lp.length cp, .slice Aq lq.length cq, .slice At lt.length ct, .bool mb] 43))) := by
                have f := F3.out.alloc (.cells #[.int .i64 (p : Int), .int .i64 (q : Int), .slice Ap lp.length cp, .slice Aq lq.length cq, .slice At lt.length ct, .bool mb] 43)
                have g := Bq.new w3 43 [.int .i64 (p : Int), .int .i64 (q : Int), .slice Ap lp.length cp, .slice Aq lq.length cq, .slice At lt.length ct, .bool mb]
                exact ⟨f.cell 0 rfl, g.cell 0 rfl, g.cell 1 rfl, f.lt, g.lt, (Bl.refl _).alloc _⟩
              go_region_held3 (fun W => W.cell? ⟨wr.heap.size, 0, none⟩ = some (.string S) ∧ W.cell? ⟨w3.heap.size, 0, none⟩ = some (.int .i64 (p : Int)) ∧ W.cell? ⟨w3.heap.size, 1, none⟩ = some (.int .i64 (q : Int)) ∧ wr.heap.size < W.heap.size ∧ w3.heap.size < W.heap.size ∧ Bl w3 W)
                (first | assumption | exact HQ0.out | exact keepF HQ0.out (Bl.refl _).drew | exact keepF ‹_› hb4)
                (first
                 | (go_at_call 17; (with_reducible refine (KN.out _).mono ?_); rintro e w4 ⟨rfl, hb4⟩; have G4 : Hid (Bl W0 w4) := ((G3.out.alloc _).drew).trans hb4; have O4 : Hid (PtO W0.heap.size w4 (.slice Ag k cg) pl) := O3.out.bl ((((Bl.refl w3).alloc _).drew).trans hb4); have X4 := Lib.hid (X3.out.bl ((((Bl.refl w3).alloc (.cells #[.int .i64 (p : Int), .int .i64 (q : Int), .slice Ap lp.length cp, .slice Aq lq.length cq, .slice At lt.length ct, .bool mb] 43)).drew).trans hb4)); have Q4 := Lib.hid (((Bq.new w3 43 [.int .i64 (p : Int), .int .i64 (q : Int), .slice Ap lp.length cp, .slice Aq lq.length cq, .slice At lt.length ct, .bool mb]).drew).bl hb4); have q0 := Q4.out.cell 0 rfl; have q1 := Q4.out.cell 1 rfl; have q2 := Q4.out.cell 2 rfl; have q3 := Q4.out.cell 3 rfl; have q4 := Q4.out.cell 4 rfl; have q5 := Q4.out.cell 5 rfl))
              clear hb4
              go_wp2_with (first
                | (at_builtin; refine wpList_app_part W0 (w4.alloc (.cells #[.int .i64 (p : Int), .int .i64 (q : Int), .slice Ap lp.length cp, .slice Aq lq.length cq, .slice At lt.length ct, .bool mb] 43)) rfl _ _ rfl _ pl ⟨⟨con, dgs, gua, (p : Int), (q : Int), lp, lq, lt, mb⟩, .slice Ap lp.length cp, .slice Aq lq.length cq, .slice At lt.length ct⟩ ⟨w4.heap.size, 0, none⟩ 1 rfl rfl (O4.out.bl ((Bl.refl _).alloc _)) (G4.out.alloc _) (X4.out.bl ((Bl.refl _).alloc _)) (by rw [hk.out]; exact HKI.out) (fun j u hj => by rw [add_none, Nat.zero_add]; exact (Bq.new w4 43 [.int .i64 (p : Int), .int .i64 (q : Int), .slice Ap lp.length cp, .slice Aq lq.length cq, .slice At lt.length ct, .bool mb]).cell j hj) ?_; intro v' w' h1 h2 h3; obtain ⟨Ag', cg', rfl, -⟩ := pto_shape (k := k + 1) h1.out (by rw [List.length_append, hk.out]; rfl)))
              go_roundw
              case rel =>
                exact ⟨i + 1, HI.out, by go_num, pl ++ [_], k + 1, Ag', cg', rfl, by show (_ : List Pt).length = _; rw [List.length_append, hk.out]; rfl, Nat.succ_le_succ hki.out, by show (_ : List Pt).map Pt.r = _; rw [List.map_append, hpl.out, HST.out]; rfl, h1.out, h2.out⟩
              case measure => have := HI.out; simp [intOf] <;> omega
            · have hnone : fnd1 jc jd jg ⟨S, D, SF⟩ = none := by rw [HFO.out, if_neg (fun h => hM h.2)]
              rw [hnone] at HST
              have xb : (M.toList == S.toList) = false := sEq_not.2 hM
              clear HFO hnone hM
              go_wp2_with (first
                | (go_at_call 16; (with_reducible refine (KO.out _).mono ?_); rintro e w3 ⟨vp, vq, vt, rfl, hp, hq, ht, hb3⟩; obtain ⟨Ap, cp, ep⟩ := rw_open hp rfl; obtain ⟨Aq, cq, eq⟩ := rw_open hq rfl; obtain ⟨At, ct, et⟩ := rw_open ht rfl; dsimp only at ep eq et hp hq ht; subst ep; subst eq; subst et; have G3 : Hid (Bl W0 w3) := (hb.out.alloc (.cells #[.string S, .string D, .string SF] 39)).trans hb3; have O3 : Hid (PtO W0.heap.size w3 (.slice Ag k cg) pl) := (ho.out.bl ((Bl.refl _).alloc (.cells #[.string S, .string D, .string SF] 39))).bl hb3; have F3 := Lib.hid ((Bq.new wr 39 [.string S, .string D, .string SF]).bl hb3); have X3 : Hid (Pt.ok w3 ⟨⟨con, dgs, gua, (p : Int), (q : Int), lp, lq, lt, mb⟩, .slice Ap lp.length cp, .slice Aq lq.length cq, .slice At lt.length ct⟩) := ⟨hp, hq, ht⟩; clear hb3 hp hq ht; (try dsimp only [parV]); refine Hid.out ?_))
              refine Lib.hid ?_
              go_wp2
              have HQ0 : Hid ((w3.alloc (.cells #[.int .i64 (p : Int), .int .i64 (q : Int), .slice Ap lp.length cp, .slice Aq lq.length cq, .slice At lt.length ct, .bool mb] 43)).cell? ⟨wr.heap.size, 0, none⟩ = some (.string S) ∧ (w3.alloc (.cells #[.int .i64 (p : Int), .int .i64 (q : Int), .slice Ap lp.length cp, .slice Aq lq.length cq, .slice At lt.length ct, .bool mb] 43)).cell? ⟨w3.heap.size, 0, none⟩ = some (.int .i64 (p : Int)) ∧ (w3.alloc (.cells #[.int .i64 (p : Int), .int .i64 (q : Int), .slice Ap lp.length cp, .slice Aq lq.length cq, .slice At lt.length ct, .bool mb] 43)).cell? ⟨w3.heap.size, 1, none⟩ = some (.int .i64 (q : Int)) ∧ wr.heap.size < (w3.alloc (.cells #[.int .i64 (p : Int), .int .i64 (q : Int), .slice Ap lp.length cp, .slice Aq lq.length cq, .slice At lt.length ct, .bool mb] 43)).heap.size ∧ w3.heap.size < (w3.alloc (.cells #[.int .i64 (p : Int), .int .i64 (q : Int), .slice Ap lp.length cp, .slice Aq lq.length cq, .slice At lt.length ct, .bool mb] 43)).heap.size ∧ Bl w3 (w3.alloc (.cells #[.int .i64 (p : Int), .int .i64 (q : Int), .slice Ap lp.length cp, .slice Aq lq.length cq, .slice At lt.length ct, .bool mb] 43))) := by
                have f := F3.out.alloc (.cells #[.int .i64 (p : Int), .int .i64 (q : Int), .slice Ap lp.length cp, .slice Aq lq.length cq, .slice At lt.length ct, .bool mb] 43)
                have g := Bq.new w3 43 [.int .i64 (p : Int), .int .i64 (q : Int), .slice Ap lp.length cp, .slice Aq lq.length cq, .slice At lt.length ct, .bool mb]
                exact ⟨f.cell 0 rfl, g.cell 0 rfl, g.cell 1 rfl, f.lt, g.lt, (Bl.refl _).alloc _⟩
              go_region_held3 (fun W => W.cell? ⟨wr.heap.size, 0, none⟩ = some (.string S) ∧ W.cell? ⟨w3.heap.size, 0, none⟩ = some (.int .i64 (p : Int)) ∧ W.cell? ⟨w3.heap.size, 1, none⟩ = some (.int .i64 (q : Int)) ∧ wr.heap.size < W.heap.size ∧ w3.heap.size < W.heap.size ∧ Bl w3 W)
                (first | assumption | exact HQ0.out | exact keepF HQ0.out (Bl.refl _).drew | exact keepF ‹_› hb4)
                (first
                 | (go_at_call 17; (with_reducible refine (KN.out _).mono ?_); rintro e w4 ⟨rfl, hb4⟩; have G4 : Hid (Bl W0 w4) := ((G3.out.alloc _).drew).trans hb4; have O4 : Hid (PtO W0.heap.size w4 (.slice Ag k cg) pl) := O3.out.bl ((((Bl.refl w3).alloc _).drew).trans hb4); have X4 := Lib.hid (X3.out.bl ((((Bl.refl w3).alloc (.cells #[.int .i64 (p : Int), .int .i64 (q : Int), .slice Ap lp.length cp, .slice Aq lq.length cq, .slice At lt.length ct, .bool mb] 43)).drew).trans hb4)); have Q4 := Lib.hid (((Bq.new w3 43 [.int .i64 (p : Int), .int .i64 (q : Int), .slice Ap lp.length cp, .slice Aq lq.length cq, .slice At lt.length ct, .bool mb]).drew).bl hb4); have q0 := Q4.out.cell 0 rfl; have q1 := Q4.out.cell 1 rfl; have q2 := Q4.out.cell 2 rfl; have q3 := Q4.out.cell 3 rfl; have q4 := Q4.out.cell 4 rfl; have q5 := Q4.out.cell 5 rfl))
              clear hb4
              go_wp2
              go_roundw
              case rel => exact ⟨i + 1, HI.out, by go_num, pl, k, Ag, cg, rfl, hk.out, Nat.le_succ_of_le hki.out, hpl.out.trans (HST.out.trans (List.append_nil _)).symm, O4.out, G4.out⟩
              case measure => have := HI.out; simp [intOf] <;> omega
          · have t0 : ((N : Int) == 0) = false := by rw [beq_eq_false_iff_ne]; omega
            have hnone : fnd1 jc jd jg ⟨S, D, SF⟩ = none := by rw [HFO.out, if_neg (fun h => hN h.1)]
            rw [hnone] at HST
            clear HFO hnone
            go_wp2_with (first
              | (go_at_call 16; (with_reducible refine (KO.out _).mono ?_); rintro e w3 ⟨vp, vq, vt, rfl, hp, hq, ht, hb3⟩; obtain ⟨Ap, cp, ep⟩ := rw_open hp rfl; obtain ⟨Aq, cq, eq⟩ := rw_open hq rfl; obtain ⟨At, ct, et⟩ := rw_open ht rfl; dsimp only at ep eq et hp hq ht; subst ep; subst eq; subst et; have G3 : Hid (Bl W0 w3) := (hb.out.alloc (.cells #[.string S, .string D, .string SF] 39)).trans hb3; have O3 : Hid (PtO W0.heap.size w3 (.slice Ag k cg) pl) := (ho.out.bl ((Bl.refl _).alloc (.cells #[.string S, .string D, .string SF] 39))).bl hb3; have F3 := Lib.hid ((Bq.new wr 39 [.string S, .string D, .string SF]).bl hb3); have X3 : Hid (Pt.ok w3 ⟨⟨con, dgs, gua, (p : Int), (q : Int), lp, lq, lt, mb⟩, .slice Ap lp.length cp, .slice Aq lq.length cq, .slice At lt.length ct⟩) := ⟨hp, hq, ht⟩; clear hb3 hp hq ht; (try dsimp only [parV]); refine Hid.out ?_))
            refine Lib.hid ?_
            go_wp2
            go_quiet (fail)
            go_wp2
            go_roundw
            case rel => exact ⟨i + 1, HI.out, by go_num, pl, k, Ag, cg, rfl, hk.out, Nat.le_succ_of_le hki.out, hpl.out.trans (HST.out.trans (List.append_nil _)).symm, O3.out.bl (((Bl.refl _).alloc _).drewN _), (G3.out.alloc _).drewN _⟩
            case measure => have := HI.out; simp [intOf] <;> omega
        · have hnone : fnd1 jc jd jg ⟨S, D, SF⟩ = none := fnd1_not (by rw [hcx, decide_eq_false hx])
          rw [hnone] at HST
          have x0 : ((x : Int) != 99) = true := by rw [bne_iff_ne]; omega
          clear hnone hcx hzf
          go_wp2
          go_roundw
          case rel => exact ⟨i + 1, HI.out, by go_num, pl, k, Ag, cg, rfl, hk.out, Nat.le_succ_of_le hki.out, hpl.out.trans (HST.out.trans (List.append_nil _)).symm, ho.out.bl ((Bl.refl _).alloc _), hb.out.alloc _⟩
          case measure => have := HI.out; simp [intOf] <;> omega
    · obtain rfl : i = n := by omega
      have HE : Hid (pl.map Pt.r = RES) := hpl.out.trans HEND.out
      clear hin hlt
      go_wp2
      go_ret
      exact ⟨_, pl, rfl, HE.out, ho.out.ptw, G0.out.trans hb.out⟩
end Go.Proofs.YtdaglbjdgdokpaaDoor
