/-
  Package crc: strings.CutPrefix at the mark; opened.
-/
import Derived.Test.YtdaglbjdgdokpaaDoorPk29
namespace Go.Proofs.YtdaglbjdgdokpaaDoor
open Go.RowKit
set_option linter.unusedVariables false
set_option linter.unusedSimpArgs false

theorem take_short {l : List Nat} (h : l.length < 4) : l.take 4 ≠ taly := by
  intro e
  have := congrArg List.length e
  rw [List.length_take, show taly.length = 4 from rfl] at this
  omega
theorem phas_any (l : List Nat) (ha : All 256 l) (hl : l.length ≤ 281474976710656) (w : World) :
    Calls Tryd.prog 30 #[.string (bs l), .string { data := #[84, 65, 76, 89] }] w fun e w' => e = .returned (.bool (decide (l.take 4 = taly))) ∧ w = w' := by
  have hz := bs_size l
  by_cases h4 : l.length < 4
  · rw [decide_eq_false (take_short h4)]
    have d0 : decide ((4 : Int) ≤ ((bs l).size : Int)) = false := decide_eq_false (by omega)
    have d1 : decide (4 ≤ (bs l).size) = false := decide_eq_false (by omega)
    have zb : ((bs l).size : Int) ≤ 281474976710656 := by omega
    obtain ⟨S, eS⟩ : ∃ S, bs l = S := ⟨_, rfl⟩
    rw [eS] at d0 d1 zb ⊢
    clear hz h4 eS
    go_enter Tryd.func30, Tryd.ntmps30
    go_wp2
    go_ret
    exact ⟨rfl, rfl⟩
  · have d0 : decide ((4 : Int) ≤ ((bs l).size : Int)) = true := decide_eq_true (by omega)
    have d1 : decide (4 ≤ (bs l).size) = true := decide_eq_true (by omega)
    have zb : ((bs l).size : Int) ≤ 281474976710656 := by omega
    have x4 : (bs l).extract 0 4 = bs (l.take 4) := by rw [bs_extract]; rfl
    have b4 : (0 : Int) ≤ 4 ∧ (4 : Int) ≤ ((bs l).size : Int) := by omega
    have q4 : ((bs (l.take 4)).toList == ([84, 65, 76, 89] : List UInt8)) = decide (l.take 4 = taly) := taly_beq (all_take ha 4)
    obtain ⟨r, er⟩ : ∃ r, decide (l.take 4 = taly) = r := ⟨_, rfl⟩
    obtain ⟨S, eS⟩ : ∃ S, bs l = S := ⟨_, rfl⟩
    obtain ⟨T, eT⟩ : ∃ S, bs (l.take 4) = S := ⟨_, rfl⟩
    rw [er] at q4 ⊢
    rw [eT] at q4 x4
    rw [eS] at d0 d1 zb x4 b4 ⊢
    clear hz h4 eS eT er
    go_enter Tryd.func30, Tryd.ntmps30
    go_wp2
    go_ret
    exact ⟨rfl, rfl⟩
/-- What is behind the mark, if it is there. -/
def behind (l : List Nat) : List Nat := if l.take 4 = taly then l.drop 4 else l
theorem pcut0_any (l : List Nat) (ha : All 256 l) (hl : l.length ≤ 281474976710656) (w : World) :
    Calls Tryd.prog 57 #[.string (bs l), .string { data := #[84, 65, 76, 89] }] w fun e w' => e = .returned (.tuple #[.string (bs (behind l)), .bool (decide (l.take 4 = taly))]) ∧ w = w' := by
  have K := Lib.hid (phas_any l ha hl w)
  have hz := bs_size l
  have zb : ((bs l).size : Int) ≤ 281474976710656 := by omega
  by_cases h : l.take 4 = taly
  · have e0 : behind l = l.drop 4 := by unfold behind; rw [if_pos h]
    have h4 : ¬ l.length < 4 := fun h' => take_short h' h
    rw [decide_eq_true h] at K ⊢
    rw [e0]
    have b1 : (0 : Int) ≤ 4 ∧ (4 : Int) ≤ ((bs l).size : Int) := by omega
    have x1 : (bs l).extract 4 (bs l).size = bs (l.drop 4) := by rw [bs_extract, hz]; unfold seg; rw [List.take_length]
    obtain ⟨S, eS⟩ : ∃ S, bs l = S := ⟨_, rfl⟩
    rw [eS] at K zb b1 x1 ⊢
    clear hz h eS e0 h4
    go_enter Tryd.func57, Tryd.ntmps57
    go_wp2_with (go_at_call 30; (with_reducible refine K.out.mono ?_); rintro e w' ⟨rfl, rfl⟩)
    go_ret2
    exact ⟨rfl, rfl⟩
  · have e0 : behind l = l := by unfold behind; rw [if_neg h]
    rw [decide_eq_false h] at K ⊢
    rw [e0]
    obtain ⟨S, eS⟩ : ∃ S, bs l = S := ⟨_, rfl⟩
    rw [eS] at K zb ⊢
    clear hz h eS e0
    go_enter Tryd.func57, Tryd.ntmps57
    go_wp2_with (go_at_call 30; (with_reducible refine K.out.mono ?_); rintro e w' ⟨rfl, rfl⟩)
    go_ret2
    exact ⟨rfl, rfl⟩
theorem pcut_any (l : List Nat) (ha : All 256 l) (hl : l.length ≤ 281474976710656) (w : World) :
    Calls Tryd.prog 44 #[.string (bs l), .string { data := #[84, 65, 76, 89] }] w fun e w' => e = .returned (.tuple #[.string (bs (behind l)), .bool (decide (l.take 4 = taly))]) ∧ w = w' := by
  have K := Lib.hid (pcut0_any l ha hl w)
  obtain ⟨S, eS⟩ : ∃ S, bs l = S := ⟨_, rfl⟩
  obtain ⟨T, eT⟩ : ∃ S, bs (behind l) = S := ⟨_, rfl⟩
  obtain ⟨r, er⟩ : ∃ r, decide (l.take 4 = taly) = r := ⟨_, rfl⟩
  rw [eS, eT, er] at K
  rw [eS, eT, er]
  clear eS eT er
  go_enter Tryd.func44, Tryd.ntmps44
  go_wp2_with (go_at_call 57; (with_reducible refine K.out.mono ?_); rintro e w' ⟨rfl, rfl⟩)
  go_ret2
  exact ⟨rfl, rfl⟩

/-- The sum is right just if the last bytes are the sum's. -/
theorem sum_right {s : List Nat} (ha : All 256 s) (h : ¬ s.length < 8) : (s.drop (s.length - 4) = be 4 (crSum (s.take (s.length - 4)))) ↔ bnum (s.drop (s.length - 4)) = crSum (s.take (s.length - 4)) := by
  have hl : (s.drop (s.length - 4)).length = 4 := by rw [List.length_drop]; omega
  constructor
  · intro e; rw [e]; exact be_small (by rw [w4]; exact crSum_lt _)
  · intro e
    have := be_bnum (all_dropc ha (s.length - 4))
    rw [hl, e] at this
    exact this.symm
theorem post_bad {W w0 w' : World} {fn : Func} {p u : Tmp} {b : Nat} {a : Act} {x : Nat × Rc} (n : Nat) (s : ByteArray) (h : fn.results = #[.cell p 62, .tmp u]) (hx : x = (n, rc0)) (hn : n ≠ 0) (hp : a.tmps.getD p undef = .pointer (some ⟨b, 0, none⟩))
    (hu : a.tmps.getD u undef = .iface 93 (.agg #[.string s, .iface 75 (.int .i64 (n : Int))])) (hd : a.defers = [])
    (hb : Bq w0 b 62 nilC) (hg : Bl W w0) (hbb : W.heap.size ≤ b) (hw : w' = w0 ∨ w' = set9 w0 b nilC) : bodyPost Tryd.prog fn (DcEnd W x) .ret a w' := by
  subst hx
  rcases hw with rfl | rfl
  · exact bodyPost_ret (ret_rec h hp hu hb) hd ⟨rc0, _, _, _, _, rfl, Or.inr ⟨hn, s, rfl⟩, fun h => absurd h hn, Rw.nil _ _, Rw.nil _ _, Rw.nil _ _, hg⟩
  exact bodyPost_ret (ret_rec h hp hu (nilC_set hb)) hd ⟨rc0, _, _, _, _, rfl, Or.inr ⟨hn, s, rfl⟩, fun h => absurd h hn, Rw.nil _ _, Rw.nil _ _, Rw.nil _ _, bl_set9 hg hbb _⟩
theorem post_dc0 {W w0 w' : World} {fn : Func} {p u : Tmp} {b : Nat} {a : Act} {x : Nat × Rc} (con dgs gua frm til : Int) (vp vq vt : Value) (minus : Bool) (lp lq lt : List Nat) (v : Value) (h : fn.results = #[.cell p 62, .tmp u]) (hp : a.tmps.getD p undef = .pointer (some ⟨b, 0, none⟩)) (hu : a.tmps.getD u undef = v) (hd : a.defers = [])
    (hb : Bq w0 b 62 nilC) (hev : ErV x.1 v) (hx : x.1 = 0 → (⟨con, dgs, gua, frm, til, lp, lq, lt, minus⟩ : Rc) = x.2) (rp : Rw .u64 w0 vp lp) (rq : Rw .u64 w0 vq lq) (rt : Rw .u64 w0 vt lt) (hg : Bl W w0) (hbb : W.heap.size ≤ b)
    (hw : w' = set9 w0 b (recC con dgs gua frm til vp vq vt minus)) : bodyPost Tryd.prog fn (DcEnd W x) .ret a w' := by
  subst hw
  exact bodyPost_ret (ret_rec h hp hu (rec_set hb con dgs gua frm til vp vq vt minus)) hd ⟨⟨con, dgs, gua, frm, til, lp, lq, lt, minus⟩, vp, vq, vt, v, rfl, hev, hx, rw_set9 rp hb _, rw_set9 rq hb _, rw_set9 rt hb _, bl_set9 hg hbb _⟩
set_option maxRecDepth 100000 in
set_option maxHeartbeats 4000000 in
theorem popened_any (s : List Nat) (ha : All 256 s) (hl : s.length ≤ 281474976710656) (w : World) :
    Calls Tryd.prog 33 #[.string (bs s)] w (DcEnd w (decB s)) := by
  have hz := bs_size s
  have zb : ((bs s).size : Int) ≤ 281474976710656 := by omega
  by_cases h8 : s.length < 8
  · have HX : Hid (decB s = (5, rc0)) := by show _ = _; unfold decB; rw [if_pos h8]
    have d0 : decide (((bs s).size : Int) - 4 < 4) = true := decide_eq_true (by omega)
    obtain ⟨X, eX⟩ : ∃ X, decB s = X := ⟨_, rfl⟩
    obtain ⟨S, eS⟩ : ∃ S, bs s = S := ⟨_, rfl⟩
    obtain ⟨z, ez⟩ : ∃ z : Int, (S.size : Int) - 4 = z := ⟨_, rfl⟩
    rw [eX] at HX ⊢
    rw [eS] at d0 zb ⊢
    rw [ez] at d0
    have zz : -4 ≤ z ∧ z ≤ 281474976710656 := by rw [← ez]; omega
    clear hz h8 eS eX
    go_enter Tryd.func33, Tryd.ntmps33
    go_wp2
    (try simp only [Exit.inBlock, Exit.then])
    exact post_bad 5 _ rfl HX.out (by decide) rfl rfl rfl (Bq.new w 62 nilC) ((Bl.refl _).alloc _) (Nat.le_refl _) (Or.inl rfl)
  · obtain ⟨n, hn⟩ : ∃ n, s.length - 4 = n := ⟨_, rfl⟩
    have hsum := sum_right ha h8
    have hE : decB s = if bnum (s.drop n) ≠ crSum (s.take n) then (7, rc0) else if s.take 4 ≠ taly then (6, rc0) else tkBody (seg s 4 n) := by unfold decB; rw [if_neg h8, hn]
    rw [hn] at hsum
    have x1 : (bs s).extract n (bs s).size = bs (s.drop n) := by rw [bs_extract, hz]; unfold seg; rw [List.take_length]
    have x2 : (bs s).extract 0 n = bs (s.take n) := by rw [bs_extract]; rfl
    have b1 : (0 : Int) ≤ (n : Int) ∧ (n : Int) ≤ ((bs s).size : Int) := by omega
    have r1 : ((bs s).size : Int) - 4 = (n : Int) := by omega
    have d0 : decide ((n : Int) < 4) = false := decide_eq_false (by omega)
    have d1 : decide (n < 4) = false := decide_eq_false (by omega)
    have nb : (n : Int) ≤ 281474976710656 := by omega
    have KS := Lib.hid (fun W => pseal_any (s.take n) (all_take ha n) (by rw [List.length_take]; omega) W)
    have KP := Lib.hid (fun W => pcut_any (s.take n) (all_take ha n) (by rw [List.length_take]; omega) W)
    have htk : (s.take n).take 4 = s.take 4 := by rw [List.take_take, Nat.min_eq_left (by omega)]
    have hbh : s.take 4 = taly → behind (s.take n) = seg s 4 n := fun h => by unfold behind; rw [htk, if_pos h]; rfl
    rw [htk] at KP
    have t0 : ((bs (s.drop n)).toList == (bs (be 4 (crSum (s.take n)))).toList) = decide (s.drop n = be 4 (crSum (s.take n))) := bs_beq (all_dropc ha n) (be_all 4 _)
    rw [decide_eq_decide.2 hsum] at t0
    have hsa := seg_all ha 4 n
    have hsl : (seg s 4 n).length ≤ 281474976710656 := by unfold seg; rw [List.length_drop, List.length_take]; omega
    have KD := Lib.hid (fun W => pdecoded_any (seg s 4 n) hsa hsl W)
    obtain ⟨E, eE⟩ : ∃ E, be 4 (crSum (s.take n)) = E := ⟨_, rfl⟩
    rw [eE] at KS t0
    obtain ⟨ES, eES⟩ : ∃ S, bs E = S := ⟨_, rfl⟩
    obtain ⟨DS, eDS⟩ : ∃ S, bs (s.drop n) = S := ⟨_, rfl⟩
    obtain ⟨YS, eYS⟩ : ∃ S, bs (s.take n) = S := ⟨_, rfl⟩
    obtain ⟨S, eS⟩ : ∃ S, bs s = S := ⟨_, rfl⟩
    obtain ⟨X, eX⟩ : ∃ X, decB s = X := ⟨_, rfl⟩
    have KS' : Hid (∀ W, Calls Tryd.prog 43 #[.string YS] W fun e w' => e = .returned (.string ES) ∧ Bl W w') := fun W => by
      have c := KS.out W
      unfold StEnd at c
      rw [eYS, eES] at c
      exact c
    rw [eES, eDS] at t0
    rw [eDS] at x1
    rw [eYS] at x2 KP
    rw [eS] at x1 x2 b1 r1 zb ⊢
    rw [eX] at hE ⊢
    by_cases hne : bnum (s.drop n) = crSum (s.take n)
    · rw [decide_eq_true hne] at t0
      rw [if_neg (by omega)] at hE
      by_cases htl : s.take 4 = taly
      · rw [if_neg (by rw [htl]; simp)] at hE
        rw [decide_eq_true htl, hbh htl] at KP
        obtain ⟨F, eF⟩ : ∃ S, bs (seg s 4 n) = S := ⟨_, rfl⟩
        rw [eF] at KP KD
        rw [← hE] at KD
        clear hz h8 hn hsum hE htk hbh hsa hsl eE eES eDS eYS eS eX hne htl eF KS
        go_enter Tryd.func33, Tryd.ntmps33
        go_wp2
        go_region_with (go_at_call 43; (with_reducible refine (KS'.out _).mono ?_); rintro e w1 ⟨rfl, hb⟩; have G1 := Lib.hid ((((Bl.refl w).alloc _).drew).trans hb); have Q1 := Lib.hid ((((Bq.new w 62 nilC).drew).bl hb)); clear hb)
        go_wp2_with (first
          | (go_at_call 44; (with_reducible refine (KP.out _).mono ?_); rintro e w' ⟨rfl, rfl⟩)
          | (go_at_call 45; (with_reducible refine (KD.out _).mono ?_); rintro e w2 ⟨⟨con, dgs, gua, frm, til, lp, lq, lt, mb⟩, vp, vq, vt, ve, rfl, hev, hx, hp, hq, ht, hb⟩; obtain ⟨Ap, cp, ep⟩ := rw_open hp rfl; obtain ⟨Aq, cq, eq⟩ := rw_open hq rfl; obtain ⟨At, ct, et⟩ := rw_open ht rfl; dsimp only at ep eq et hp hq ht; subst ep; subst eq; subst et; have HEV := Lib.hid hev; have HXX := Lib.hid hx; have HP := Lib.hid hp; have HQ := Lib.hid hq; have HT := Lib.hid ht; have G2 := Lib.hid (G1.out.trans hb); have Q2 := Lib.hid (Q1.out.bl hb); have q0 := Q2.out.cell 0 rfl; have q1 := Q2.out.cell 1 rfl; have q2 := Q2.out.cell 2 rfl; have q3 := Q2.out.cell 3 rfl; have q4 := Q2.out.cell 4 rfl; have q5 := Q2.out.cell 5 rfl; have q6 := Q2.out.cell 6 rfl; have q7 := Q2.out.cell 7 rfl; have q8 := Q2.out.cell 8 rfl; have qf := Q2.out.free; clear hev hx hp hq ht hb; (try dsimp only [recV])))
        (try simp only [Exit.inBlock, Exit.then])
        exact post_dc0 (w0 := w2) con dgs gua frm til (.slice Ap lp.length cp) (.slice Aq lq.length cq) (.slice At lt.length ct) mb lp lq lt ve rfl rfl rfl rfl Q2.out HEV.out HXX.out HP.out HQ.out HT.out G2.out (Nat.le_refl _) rfl
      · rw [if_pos htl] at hE
        rw [decide_eq_false htl] at KP
        obtain ⟨F, eF⟩ : ∃ F, bs (behind (s.take n)) = F := ⟨_, rfl⟩
        rw [eF] at KP
        have HX := Lib.hid hE
        clear hz h8 hn hsum hE htk hbh hsa hsl eE eES eDS eYS eS eX hne htl eF KS KD
        go_enter Tryd.func33, Tryd.ntmps33
        go_wp2
        go_region_with (go_at_call 43; (with_reducible refine (KS'.out _).mono ?_); rintro e w1 ⟨rfl, hb⟩; have G1 := Lib.hid ((((Bl.refl w).alloc _).drew).trans hb); have Q1 := Lib.hid ((((Bq.new w 62 nilC).drew).bl hb)); clear hb)
        all_goals skip
        have q0 := Q1.out.cell 0 rfl
        have q1 := Q1.out.cell 1 rfl
        have q2 := Q1.out.cell 2 rfl
        have q3 := Q1.out.cell 3 rfl
        have q4 := Q1.out.cell 4 rfl
        have q5 := Q1.out.cell 5 rfl
        have q6 := Q1.out.cell 6 rfl
        have q7 := Q1.out.cell 7 rfl
        have q8 := Q1.out.cell 8 rfl
        have qf := Q1.out.free
        go_wp2_with (go_at_call 44; (with_reducible refine (KP.out _).mono ?_); rintro e w' ⟨rfl, rfl⟩)
        (try simp only [Exit.inBlock, Exit.then])
        exact post_bad 6 _ rfl HX.out (by decide) rfl rfl rfl Q1.out G1.out (Nat.le_refl _) (Or.inr rfl)
    · rw [decide_eq_false hne] at t0
      rw [if_pos hne] at hE
      have HX := Lib.hid hE
      clear hz h8 hn hsum hE htk hbh hsa hsl eE eES eDS eYS eS eX hne KS KD KP
      go_enter Tryd.func33, Tryd.ntmps33
      go_wp2
      go_region_with (go_at_call 43; (with_reducible refine (KS'.out _).mono ?_); rintro e w1 ⟨rfl, hb⟩; have G1 := Lib.hid ((((Bl.refl w).alloc _).drew).trans hb); have Q1 := Lib.hid ((((Bq.new w 62 nilC).drew).bl hb)); clear hb)
      have q0 := Q1.out.cell 0 rfl
      have q1 := Q1.out.cell 1 rfl
      have q2 := Q1.out.cell 2 rfl
      have q3 := Q1.out.cell 3 rfl
      have q4 := Q1.out.cell 4 rfl
      have q5 := Q1.out.cell 5 rfl
      have q6 := Q1.out.cell 6 rfl
      have q7 := Q1.out.cell 7 rfl
      have q8 := Q1.out.cell 8 rfl
      have qf := Q1.out.free
      go_wp2
      (try simp only [Exit.inBlock, Exit.then])
      exact post_bad 7 _ rfl HX.out (by decide) rfl rfl rfl Q1.out G1.out (Nat.le_refl _) (Or.inr rfl)
end Go.Proofs.YtdaglbjdgdokpaaDoor
