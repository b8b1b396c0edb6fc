/-
  Comparisons of rows of any length: slices.Equal, the document's Same of layer 4 (printed by gen/csn.py).
-/
import Derived.Test.YtpdglbfnmilblaaDoorPk9
import Derived.Test.YtpdglbfnmilblaaDoorPk25
import Derived.Test.YtpdglbfnmilblaaDoorPk12
import Derived.Test.YtpdglbfnmilblaaDoorPk14
import Derived.BigQuiet
namespace Go.Proofs.YtpdglbfnmilblaaDoor
open Go.RowKit
set_option linter.unusedVariables false
set_option linter.unusedSimpArgs false

set_option maxRecDepth 100000 in
set_option maxHeartbeats 2000000 in
theorem pequal_big (v1 v2 : Value) (l m : List Nat) (w : World) (hr1 : Rw .u64 w v1 l) (hr2 : Rw .u64 w v2 m) :
    Calls Tryd.prog 31 #[v1, v2] w fun e w' => e = .returned (.bool (decide (l = m))) ∧ Bl w w' := by
  have hl := rw_len hr1
  have hm := rw_len hr2
  obtain ⟨A1, c1, rfl, _, _, _, hx1⟩ := hr1
  obtain ⟨A2, c2, rfl, _, _, _, hx2⟩ := hr2
  have H1 := Lib.hid hx1
  have H2 := Lib.hid hx2
  have hnb : (l.length : Int) ≤ 9223372036854775807 := by omega
  have hnm : (m.length : Int) ≤ 9223372036854775807 := by omega
  clear hx1 hx2 hl hm
  by_cases h : l.length = m.length
  · obtain ⟨n, hn⟩ : ∃ n, l.length = n := ⟨_, rfl⟩
    obtain ⟨b, hb⟩ : ∃ b, decide (l = m) = b := ⟨_, rfl⟩
    have HL := Lib.hid hn
    have HM := Lib.hid (h.symm.trans hn)
    have HB := Lib.hid hb
    rw [hb]
    rw [← h, hn]
    rw [hn] at hnb
    have r1 : ((n : Int) != (n : Int)) = false := by rw [bne_eq_false_iff_eq]
    clear hn h hb hnm
    go_enter Tryd.func31, Tryd.ntmps31
    go_wp2
    go_loopw [13] (fun s wr => ∃ i : Nat, i ≤ n ∧ s = .int .i64 (i : Int) ∧ Hid (l.take i = m.take i) ∧ Hid (Bl w wr)) (fun s _ => n - (intOf s).toNat)
    case atStart => exact ⟨0, Nat.zero_le _, rfl, by show l.take 0 = m.take 0; simp, Bl.refl w⟩
    case round =>
      obtain ⟨i, hin, rfl, ht, hb⟩ := hrel
      by_cases hlt : i < n
      · obtain ⟨a1, hA1, hc1⟩ := (H1.out.bl hb.out).at_ (i := i) (by rw [HL.out]; exact hlt)
        obtain ⟨a2, hA2, hc2⟩ := (H2.out.bl hb.out).at_ (i := i) (by rw [HM.out]; exact hlt)
        have s1 := Lib.hid (take_eq_step ht.out (by rw [HL.out]; exact hlt) (by rw [HM.out]; exact hlt))
        have s2 := Lib.hid (take_ne (l := l) (m := m) (i := i) (by rw [HL.out]; exact hlt) (by rw [HM.out]; exact hlt))
        obtain ⟨d1, e1⟩ : ∃ d, l[i]'(by rw [HL.out]; exact hlt) = d := ⟨_, rfl⟩
        obtain ⟨d2, e2⟩ : ∃ d, m[i]'(by rw [HM.out]; exact hlt) = d := ⟨_, rfl⟩
        rw [e1] at s1 s2 hc1
        rw [e2] at s1 s2 hc2
        have b2 : (0 : Int) ≤ (i : Int) ∧ (i : Int) < (n : Int) := by omega
        subst hA1
        subst hA2
        clear e1 e2
        by_cases hd : d1 = d2
        · have HS := Lib.hid (s1.out hd)
          have t1 : ((d1 : Int) != (d2 : Int)) = false := by rw [bne_eq_false_iff_eq]; omega
          clear hd
          go_wp2
          go_quiet (fail)
          go_wp2
          go_roundw
          case rel => exact ⟨i + 1, by omega, by go_num, HS.out, hb.out.drewN _⟩
          case measure => simp [intOf] <;> omega
        · have HF : Hid (b = false) := by rw [← HB.out]; exact decide_eq_false (s2.out hd)
          have t1 : ((d1 : Int) != (d2 : Int)) = true := by rw [bne_iff_ne]; omega
          clear hd
          go_wp2
          go_quiet (fail)
          go_wp2
          go_ret
          exact ⟨ret_b HF.out.symm, hb.out.drewN _⟩
      · have hin' : i = n := by omega
        have HT : Hid (b = true) := by
          rw [← HB.out]
          refine decide_eq_true ?_
          have e := ht.out
          rw [hin', ← HL.out, List.take_length, HL.out, ← HM.out, List.take_length] at e
          exact e
        clear hin'
        go_wp2
        go_ret
        exact ⟨ret_b HT.out.symm, hb.out⟩
  · have HF : Hid (decide (l = m) = false) := decide_eq_false (fun e => h (by rw [e]))
    have r1 : ((l.length : Int) != (m.length : Int)) = true := by rw [bne_iff_ne]; omega
    clear h
    go_enter Tryd.func31, Tryd.ntmps31
    go_wp2
    go_ret
    exact ⟨ret_b HF.out.symm, Bl.refl w⟩
set_option maxRecDepth 100000 in
set_option maxHeartbeats 2000000 in
theorem rsame_big (v1 v2 : Value) (l m : List Nat) (w : World) (hr1 : Rw .u64 w v1 l) (hr2 : Rw .u64 w v2 m) :
    Calls Tryd.prog 30 #[v1, v2] w fun e w' => e = .returned (.bool (decide (l = m))) ∧ Bl w w' := by
  have hl := rw_len hr1
  have hm := rw_len hr2
  obtain ⟨A1, c1, rfl, _, _, _, hx1⟩ := hr1
  obtain ⟨A2, c2, rfl, _, _, _, hx2⟩ := hr2
  have H1 := Lib.hid hx1
  have H2 := Lib.hid hx2
  have hnb : (l.length : Int) ≤ 9223372036854775807 := by omega
  have hnm : (m.length : Int) ≤ 9223372036854775807 := by omega
  clear hx1 hx2 hl hm
  by_cases h : l.length = m.length
  · obtain ⟨n, hn⟩ : ∃ n, l.length = n := ⟨_, rfl⟩
    obtain ⟨b, hb⟩ : ∃ b, decide (l = m) = b := ⟨_, rfl⟩
    have HL := Lib.hid hn
    have HM := Lib.hid (h.symm.trans hn)
    have HB := Lib.hid hb
    rw [hb]
    rw [← h, hn]
    rw [hn] at hnb
    have r1 : ((n : Int) != (n : Int)) = false := by rw [bne_eq_false_iff_eq]
    clear hn h hb hnm
    go_enter Tryd.func30, Tryd.ntmps30
    go_wp2
    go_loopw [5] (fun s wr => ∃ i : Nat, i ≤ n ∧ s = .int .i64 (i : Int) ∧ Hid (l.take i = m.take i) ∧ Hid (Bl w wr)) (fun s _ => n - (intOf s).toNat)
    case atStart => exact ⟨0, Nat.zero_le _, rfl, by show l.take 0 = m.take 0; simp, Bl.refl w⟩
    case round =>
      obtain ⟨i, hin, rfl, ht, hb⟩ := hrel
      by_cases hlt : i < n
      · obtain ⟨a1, hA1, hc1⟩ := (H1.out.bl hb.out).at_ (i := i) (by rw [HL.out]; exact hlt)
        obtain ⟨a2, hA2, hc2⟩ := (H2.out.bl hb.out).at_ (i := i) (by rw [HM.out]; exact hlt)
        have s1 := Lib.hid (take_eq_step ht.out (by rw [HL.out]; exact hlt) (by rw [HM.out]; exact hlt))
        have s2 := Lib.hid (take_ne (l := l) (m := m) (i := i) (by rw [HL.out]; exact hlt) (by rw [HM.out]; exact hlt))
        obtain ⟨d1, e1⟩ : ∃ d, l[i]'(by rw [HL.out]; exact hlt) = d := ⟨_, rfl⟩
        obtain ⟨d2, e2⟩ : ∃ d, m[i]'(by rw [HM.out]; exact hlt) = d := ⟨_, rfl⟩
        rw [e1] at s1 s2 hc1
        rw [e2] at s1 s2 hc2
        have b2 : (0 : Int) ≤ (i : Int) ∧ (i : Int) < (n : Int) := by omega
        subst hA1
        subst hA2
        clear e1 e2
        by_cases hd : d1 = d2
        · have HS := Lib.hid (s1.out hd)
          have t1 : ((d1 : Int) != (d2 : Int)) = false := by rw [bne_eq_false_iff_eq]; omega
          clear hd
          go_wp2
          go_quiet (fail)
          go_wp2
          go_roundw
          case rel => exact ⟨i + 1, by omega, by go_num, HS.out, hb.out.drewN _⟩
          case measure => simp [intOf] <;> omega
        · have HF : Hid (b = false) := by rw [← HB.out]; exact decide_eq_false (s2.out hd)
          have t1 : ((d1 : Int) != (d2 : Int)) = true := by rw [bne_iff_ne]; omega
          clear hd
          go_wp2
          go_quiet (fail)
          go_wp2
          go_ret
          exact ⟨ret_b HF.out.symm, hb.out.drewN _⟩
      · have hin' : i = n := by omega
        have HT : Hid (b = true) := by
          rw [← HB.out]
          refine decide_eq_true ?_
          have e := ht.out
          rw [hin', ← HL.out, List.take_length, HL.out, ← HM.out, List.take_length] at e
          exact e
        clear hin'
        go_wp2
        go_ret
        exact ⟨ret_b HT.out.symm, hb.out⟩
  · have HF : Hid (decide (l = m) = false) := decide_eq_false (fun e => h (by rw [e]))
    have r1 : ((l.length : Int) != (m.length : Int)) = true := by rw [bne_iff_ne]; omega
    clear h
    go_enter Tryd.func30, Tryd.ntmps30
    go_wp2
    go_ret
    exact ⟨ret_b HF.out.symm, Bl.refl w⟩
end Go.Proofs.YtpdglbfnmilblaaDoor
