/-
  Package quot at any length that the form allows (2^44 words at most): take, and the closure of Div. (Printed by gen/quz.py.)
-/
import Derived.Test.YtdoohlehglakfaaPk32
import Derived.Test.YtdoohlehglakfaaPk28
import Derived.WalkMore
namespace Go.Proofs.Ytdoohlehglakfaa
open Go.RowKit Go.Shelf
set_option linter.unusedVariables false
set_option linter.unusedSimpArgs false

set_option maxRecDepth 100000 in
set_option maxHeartbeats 8000000 in
theorem ptake_anyZ (W0 W : World) (g o Cr m : Nat) (v : Value) (l row : List Nat) (R D : Nat) (hb : Bl W0 W) (hg : W0.heap.size ≤ g) (hk : Bk .u64 33 W g row) (hv : Rw .u64 W0 v l)
    (hl : All 18446744073709551616 l) (hrow : All 18446744073709551616 row) (hm : l.length = m + 1) (hlast : ∀ h : m < l.length, l[m] ≠ 0) (hlen : o + m + 1 < row.length) (hs : row.length < 17592186044417) (hC : m + 2 ≤ Cr) (hCm : Cr ≤ maxLen)
    (hD : val 18446744073709551616 l = D) (hR : win row o (m + 2) = R) (hDp : 0 < D) :
    Calls Try.prog 15 #[.slice (some ⟨g, o, none⟩) ((m + 2 : Nat)) Cr, v] W (TakeEnd W0 W g row o m R D) := by
  have hkl : o + (m + 1) < row.length := by omega
  have hwl : ((row.drop o).take (m + 2)).length = m + 2 := by rw [List.length_take, List.length_drop]; omega
  have KE := Lib.hid (fun W' (gw : Bl W0 W') (hk' : Bk .u64 33 W' g row) => pestimate_anyZ (.slice (some ⟨g, o, none⟩) (m + 2) Cr) v ((row.drop o).take (m + 2)) l m (all_take (all_dropq hrow o) _) hl hm hwl hlast (by omega) W' (bk_win hk' o (m + 2) Cr (by omega) hC hCm) (hv.bl gw))
  have eR : val 18446744073709551616 ((row.drop o).take (m + 2)) = R := hR
  rw [eR, hD] at KE
  have KT := Lib.hid (fun q (hq : q < 18446744073709551616) W' (gw : Bl W0 W') (hk' : Bk .u64 33 W' g row) => ptakeTimes_anyZ W0 W' g o (m + 2) Cr v l q row gw hg hk' hv hl hrow (by omega) (by omega) (by omega) hq)
  have KG := Lib.hid (fun out (ha : All 18446744073709551616 out) (hn : out.length = row.length) W' (gw : Bl W0 W') (hk' : Bk .u64 33 W' g out) => pgiveBack_anyZ W0 W' g o (m + 2) Cr v l out gw hg hk' hv hl ha (by omega) (by omega) (by omega))
  obtain ⟨rn, hrn⟩ : ∃ rn, row[o + (m + 1)]'hkl = rn := ⟨_, rfl⟩
  have HF := Lib.hid (fun q c out (h : TkSt 18446744073709551616 row l q o l.length c out) (hq : q < 18446744073709551616 ∧ (R < D * 18446744073709551616 → R / D ≤ q ∧ q ≤ R / D + 2)) (hrn : ∀ h : o + (m + 1) < out.length, out[o + (m + 1)] = rn) => tki_first hm hlen hD hR h hrow hq.1 hq.2 hrn)
  have HN := Lib.hid (fun i q c out out' (h : TkI row o m R D i q 1 out) (g : GvSt 18446744073709551616 out (l ++ [0]) o (l.length + 1) c out') => tki_next hDp hm hlen hD h g)
  have HFI := Lib.hid (fun i q over out (h : TkI row o m R D i q over out) (hx : over = 0 ∨ i = 2) => tki_fin hDp h hx)
  have HRN := Lib.hid (fun out q c (h : TkSt 18446744073709551616 row l q o l.length c out) (h' : o + (m + 1) < out.length) => (show out[o + (m + 1)] = rn by
    have e := h.far (o + (m + 1)) (by rw [hm]; exact Nat.le_refl _)
    rw [List.getElem?_eq_getElem h', List.getElem?_eq_getElem hkl, hrn] at e
    exact Option.some.inj e))
  have HKL := Lib.hid hkl
  have HDP := Lib.hid hDp
  have hc0 := hk.cell (o + (m + 1)) hkl
  rw [hrn] at hc0
  have HC0 := Lib.hid hc0
  have HG := Lib.hid hg
  have HK := Lib.hid hk
  have HB := Lib.hid hb
  have HMM := Lib.hid hm
  have mb : (m : Int) ≤ 17592186044416 := by omega
  have ob : (o : Int) ≤ 17592186044416 := by omega
  obtain ⟨A, c0, rfl, _, _, _, _⟩ := hv
  rw [hm] at KE KT KG ⊢
  obtain ⟨n, hn⟩ : ∃ n, m + 1 = n := ⟨_, rfl⟩
  obtain ⟨L, hL⟩ : ∃ n, m + 2 = n := ⟨_, rfl⟩
  rw [hn] at KE KT KG HF HRN HKL hc0 HC0 HMM ⊢
  rw [hL] at KE KT KG hC ⊢
  have nb : (n : Int) ≤ 17592186044417 := by omega
  have b1 : (0 : Int) ≤ (n : Int) ∧ (n : Int) < (L : Int) := by omega
  clear hrn hkl hwl eR hlast hD hR hDp hl hrow hs hg hk hb hC hCm hlen hc0
  have KSB := Lib.hid (fun (a b : Nat) (w : World) => (show Calls Try.prog 24 #[.int .u64 (a : Int), .int .u64 (b : Int), .int .u64 0] w fun e w' => e = .returned (.tuple #[.int .u64 ((subD a b 0 : Nat) : Int), .int .u64 ((subB a b 0 : Nat) : Int)]) ∧ w = w' from sub_any a b 0 w))
  go_enter Try.func15, Try.ntmps15
  go_wp2
  go_step3
  go_wp2_with (go_at_call 23; (with_reducible refine (KE.out _ HB.out HK.out).mono ?_); rintro e w1 ⟨q, rfl, hq, hQ⟩; have HQ := Lib.hid hq; have HK1 := Lib.hid (q_bk hQ HK.out); have HB1 := Lib.hid (HB.out.trans (q_bl hQ)); have HO1 := Lib.hid (q_oth g hQ); have hc1 := (q_cell hQ _).trans HC0.out; clear hq hQ)
  go_region_with (first
    | (go_at_call 25; (with_reducible refine (KT.out _ HQ.out.1 _ HB1.out.drew HK1.out.drew).mono ?_); rintro e w2 ⟨out, c, rfl, hbk, hst, hb2, ho2⟩; have hol : o + n < out.length := (by rw [hst.len]; exact HKL.out); have hrn := HRN.out _ _ _ hst hol; have hco := hbk.cell (o + n) hol; rw [hrn] at hco; have hfz := hbk.free (o + n); have HF1 := Lib.hid (HF.out _ _ _ hst HQ.out (fun _ => hrn)); have KS1 := Lib.hid (KSB.out rn c); obtain ⟨s, es⟩ : ∃ s, subD rn c 0 = s := ⟨_, rfl⟩; obtain ⟨b, eb⟩ : ∃ s, subB rn c 0 = s := ⟨_, rfl⟩; rw [es, eb] at HF1 KS1; have HBK := Lib.hid (hbk.set (o + n) s hol); have HB2 := Lib.hid (hb2.setCell (p := ⟨g, o + n, none⟩) HG.out (.int .u64 (s : Int))); have HO2 := Lib.hid ((HO1.out.drew.trans ho2).setCell (o + n) (.int .u64 (s : Int))); clear es eb hol hrn hst hb2 ho2 hbk)
    | (go_at_call 24; (with_reducible refine (KS1.out _).mono ?_); rintro e w' ⟨rfl, rfl⟩))
  all_goals
    clear HC0 hc1 HK1 HB1 HO1 HK HB KE KT HF HRN KSB KS1 HQ HKL HMM
    go_wp2
    go_step3
    go_wp2
    clear hco hfz
    go_loopw [6, 8, 30] (fun qv ov iv wr => ∃ (i q over : Nat) (out : List Nat), i ≤ 2 ∧ qv = .int .u64 (q : Int) ∧ ov = .int .u64 (over : Int) ∧ iv = .int .i64 (i : Int) ∧ Hid (TkI row o m R D i q over out) ∧ Hid (Bk .u64 33 wr g out) ∧ Hid (Bl W0 wr) ∧ Hid (Oth g W wr)) (fun _ _ iv _ => 2 - (intOf iv).toNat)
    case atStart => exact ⟨0, q, b, _, by omega, rfl, rfl, rfl, HF1, HBK, HB2, HO2⟩
    case round =>
      clear HF1 HBK HB2 HO2
      obtain ⟨i, q', ov, out', hi2, rfl, rfl, rfl, hI, hbk, hb, ho⟩ := hrel
      by_cases hov : ov = 0 ∨ i = 2
      · have HF0 := Lib.hid (HFI.out _ _ _ _ hI.out hov)
        by_cases hlt : i < 2
        · have e0 : ((ov : Int) == 0) = true := by rw [beq_iff_eq]; omega
          have d0 : decide ((i : Int) < 2) = true := decide_eq_true (by omega)
          clear hlt hi2 hI hov
          go_wp2
          try rw [Exit.noGoto_ret]
          go_ret
          exact ⟨out', q', rfl, hbk.out, HF0.out, hb.out, ho.out⟩
        · have d0 : decide ((i : Int) < 2) = false := decide_eq_false (by omega)
          clear hlt hi2 hI hov
          go_wp2
          try rw [Exit.noGoto_ret]
          go_ret
          exact ⟨out', q', rfl, hbk.out, HF0.out, hb.out, ho.out⟩
      · have hi : i < 2 := by omega
        have hov1 : ov = 1 := by have := hI.out.le; omega
        have e0 : ((ov : Int) == 0) = false := by rw [beq_eq_false_iff_ne]; omega
        have d0 : decide ((i : Int) < 2) = true := decide_eq_true (by omega)
        have KG1 := Lib.hid (KG.out out' hI.out.all hI.out.len _ hb.out hbk.out)
        have HI1 : Hid (TkI row o m R D i q' 1 out') := by
          have h := hI.out
          rw [hov1] at h
          exact h
        have hql : q' < 18446744073709551616 := hI.out.lt
        obtain ⟨p, hp⟩ : ∃ p, q' - 1 = p := ⟨_, rfl⟩
        have hqp : 1 ≤ q' := Nat.lt_of_le_of_lt (Nat.zero_le _) (tki_over (Nat.pos_of_ne_zero (fun h => by have := HDP.out; omega)) HI1.out)
        have r1 : (q' : Int) - 1 = (p : Int) := by omega
        have r2 : IntKind.u64.wrap (p : Int) = (p : Int) := wrapN _ (by omega)
        have HP := Lib.hid hp
        have HOV := Lib.hid hov1
        have HI2 := Lib.hid hi
        have ib : (i : Int) ≤ 2 := by omega
        clear hI hov hov1 hi hi2 hql hqp hp
        go_wp2_with (go_at_call 26; (with_reducible refine KG1.out.mono ?_); rintro e w3 ⟨out3, c3, rfl, hbk3, hst3, hb3, ho3⟩; have HN3 := Lib.hid (HN.out _ _ _ _ _ HI1.out hst3); rw [HP.out] at HN3; have hc3 := HN3.out.2.1; obtain ⟨ov3, hov3⟩ : ∃ x, 1 - c3 = x := ⟨_, rfl⟩; rw [hov3] at HN3; have r3 : (ov : Int) - (c3 : Int) = (ov3 : Int) := (by have := HOV.out; omega); have r4 : IntKind.u64.wrap (ov3 : Int) = (ov3 : Int) := wrapN _ (by omega); have HB3 := Lib.hid hb3; have HK3 := Lib.hid hbk3; have HO3 := Lib.hid (ho.out.trans ho3); clear hst3 hov3 hc3 hb3 hbk3 ho3)
        go_roundw
        case rel => exact ⟨i + 1, p, ov3, out3, HI2.out, by first | rfl | go_num, by first | rfl | go_num, by go_num, HN3.out.2.2, HK3, HB3, HO3⟩
        case measure => have := HI2.out; simp [intOf] <;> omega

set_option maxRecDepth 100000 in
set_option maxHeartbeats 4000000 in
theorem pdivc_anyZ (Wd W : World) (g L pL pN pD m N D A : Nat) (vd : Value) (dl : List Nat) (tr : List (Nat × Nat)) (i : Nat) (hg : Wd.heap.size ≤ g) (hv : Rw .u64 Wd vd dl) (hdl : All 18446744073709551616 dl) (hm : dl.length = m + 1) (hlast : ∀ h : m < dl.length, dl[m] ≠ 0)
    (hL : L ≤ 17592186044416) (hN : N + (m + 1) = L) (hD : val 18446744073709551616 dl = D) (hDp : 0 < D) (hi : i < N) (hne : pL ≠ g ∧ pN ≠ g ∧ pD ≠ g) (h : JDv Wd g L pL pN pD (m + 1) vd N D A tr W) :
    Calls Try.prog 14 #[.int .i64 (i : Int), .pointer (some ⟨pL, 0, none⟩), .pointer (some ⟨pN, 0, none⟩), .pointer (some ⟨pD, 0, none⟩)] W (QuCall (JDv Wd g L pL pN pD (m + 1) vd N D A) tr i g W) := by
  obtain ⟨row, hb, hs⟩ := h
  have hDB : D < 18446744073709551616 ^ (m + 1) := by
    have := val_lt 18446744073709551616 (by decide) dl hdl
    rwa [hD, hm] at this
  have KT := Lib.hid (fun W' (g1 : Bl Wd W') (g2 : Bk .u64 33 W' g row) => ptake_anyZ Wd W' g i (L - i) m vd dl row (win row i (m + 2)) D g1 hg g2 hv hdl hb.all hm hlast (by rw [hb.len]; omega) (by rw [hb.len]; omega) (by omega) (by unfold maxLen; omega) hD rfl hDp)
  have HSTEP := Lib.hid (fun q out (t : TkF row i m (win row i (m + 2)) D q out) => dvs_step hb.all hb.len hN hDB hDp hs t)
  obtain ⟨y, hy⟩ : ∃ y, i + (m + 1) + 1 = y := ⟨_, rfl⟩
  obtain ⟨x, hx⟩ : ∃ x, i + (m + 1) = x := ⟨_, rfl⟩
  rw [show m + 2 = y - i by omega] at KT HSTEP
  have r1 : (i : Int) + ((m + 1 : Nat) : Int) = (x : Int) := by omega
  have r2 : (x : Int) + 1 = (y : Int) := by omega
  have yb : (y : Int) ≤ 17592186044416 := by omega
  have w1 : IntKind.i64.wrap (x : Int) = (x : Int) := IntWalk.i64_in _ (by omega)
  have w2 : IntKind.i64.wrap (y : Int) = (y : Int) := IntWalk.i64_in _ (by omega)
  have b1 : (0 : Int) ≤ (i : Int) ∧ (i : Int) ≤ (y : Int) := by omega
  have b2 : (0 : Int) ≤ (y : Int) ∧ (y : Int) ≤ (L : Int) := by omega
  have b3 : ¬ L = i := by omega
  have c1 := hb.bL.cell
  have c2 := hb.bN.cell
  have c3 := hb.bD.cell
  have HB := Lib.hid hb
  have HNE := Lib.hid hne
  obtain ⟨n, hn⟩ : ∃ n, m + 1 = n := ⟨_, rfl⟩
  rw [hn] at r1 c2
  obtain ⟨A1, cd, hvd, _, _, _, _⟩ := hv
  have HVD := Lib.hid hvd
  clear hs hb hDB hdl hm hlast hL hN hD hDp hi hne hy hx hg hvd
  go_enter Try.func14, Try.ntmps14
  go_wp2
  go_region_with (go_at_call 15; (with_reducible refine (KT.out _ HB.out.bl.drew HB.out.bk.drew).mono ?_); rintro e w2 ⟨out, q, rfl, hbk, ht, hb2, ho2⟩)
  all_goals (try go_wp2)
  all_goals go_ret
  all_goals exact ⟨q, rfl, ht.lt, ⟨out, ⟨hbk, ht.len.trans HB.out.len, ht.all, (ho2.2 _ HNE.out.1).trans HB.out.bL, (ho2.2 _ HNE.out.2.1).trans HB.out.bN, (ho2.2 _ HNE.out.2.2).trans HB.out.bD, hb2⟩, HSTEP.out _ _ ht⟩, ho2⟩

end Go.Proofs.Ytdoohlehglakfaa
