/-
  Two rows of files, or of strings, compared: slices.Equal, disk.Same, the document's Same and Strings of layer 15.
-/
import Derived.Test.YtgbeflocojmhhaaDkA
namespace Go.Proofs.Ytgbeflocojmhhaa
open Go.RowKit
set_option linter.unusedVariables false
set_option linter.unusedSimpArgs false

theorem takeF_step {l m : List Fl} {i : Nat} (h : l.take i = m.take i) (hl : i < l.length) (hm : i < m.length) (e : flEq l[i] m[i] = true) : l.take (i + 1) = m.take (i + 1) := by
  rw [List.take_add_one, List.take_add_one, h, List.getElem?_eq_getElem hl, List.getElem?_eq_getElem hm, flEq_iff.1 e]
theorem takeF_ne {l m : List Fl} {i : Nat} (hl : i < l.length) (hm : i < m.length) (e : flEq l[i] m[i] = false) : fsEq l m = false := by
  rw [fsEq_not]
  rintro rfl
  rw [flEq_iff.2 rfl] at e
  cases e
theorem takeF_end {l m : List Fl} {i n : Nat} (hl : l.length = n) (hm : m.length = n) (h : l.take i = m.take i) (hi : i = n) : fsEq l m = true := by
  subst hi
  rw [fsEq_iff]
  have h1 := List.take_of_length_le (Nat.le_of_eq hl)
  have h2 := List.take_of_length_le (Nat.le_of_eq hm)
  rw [h1, h2] at h
  exact h
theorem fsEq_len {l m : List Fl} (h : ¬ l.length = m.length) : fsEq l m = false := by
  rw [fsEq_not]
  rintro rfl
  exact h rfl
theorem neq_file (a b c a' b' c' : ByteArray) (w : World) : (binOp .neq 49 (.agg #[.string a, .string b, .string c]) (.agg #[.string a', .string b', .string c'])).run Try.prog w = .ok (.bool (!flEq ⟨a, b, c⟩ ⟨a', b', c'⟩)) w := by
  go_simp
  by_cases h1 : a.toList = a'.toList <;> by_cases h2 : b.toList = b'.toList <;> by_cases h3 : c.toList = c'.toList <;> simp [flEq, sEq, h1, h2, h3]
set_option maxRecDepth 100000 in
set_option maxHeartbeats 4000000 in
theorem pequalF_any (v u : Value) (l m : List Fl) (w : World) (hv : Fw w v l) (hu : Fw w u m) :
    Calls Try.prog 34 #[v, u] w fun e w' => e = .returned (.bool (fsEq l m)) ∧ Bl w w' := by
  have hnl := fw_len hv
  have hnm := fw_len hu
  obtain ⟨A1, c1, rfl, _, _, _, hx1⟩ := hv
  obtain ⟨A2, c2, rfl, _, _, _, hx2⟩ := hu
  have H1 := Lib.hid hx1
  have H2 := Lib.hid hx2
  clear hx1 hx2
  by_cases h : l.length = m.length
  · obtain ⟨n, hn⟩ : ∃ n, l.length = n := ⟨_, rfl⟩
    obtain ⟨b, hb⟩ : ∃ b, fsEq l m = b := ⟨_, rfl⟩
    have HL := Lib.hid hn
    have HM := Lib.hid (h.symm.trans hn)
    have HB := Lib.hid hb
    rw [hb]
    rw [← h, hn]
    rw [hn] at hnl
    have hnb : (n : Int) ≤ 9223372036854775807 := by omega
    have r1 : ((n : Int) != (n : Int)) = false := by rw [bne_eq_false_iff_eq]
    have a24 := Try.isAgg49
    have z24 := Try.sizeOf49
    clear hn h hb hnl hnm
    go_enter Try.func34, Try.ntmps34
    go_wp2
    go_loopw [13] (fun s wr => ∃ i : Nat, i ≤ n ∧ s = .int .i64 (i : Int) ∧ Hid (l.take i = m.take i) ∧ Hid (Bl w wr)) (fun s _ => n - (intOf s).toNat)
    case atStart => exact ⟨0, Nat.zero_le _, rfl, by show l.take 0 = m.take 0; simp, Bl.refl w⟩
    case round =>
      obtain ⟨i, hin, rfl, ht, hb⟩ := hrel
      by_cases hlt : i < n
      · have hil : i < l.length := by rw [HL.out]; exact hlt
        have him : i < m.length := by rw [HM.out]; exact hlt
        obtain ⟨a1, o1, hA1, hc1, hd1, he1⟩ := (H1.out.bl hb.out).at_ hil
        obtain ⟨a2, o2, hA2, hc2, hd2, he2⟩ := (H2.out.bl hb.out).at_ him
        have s1 := Lib.hid (takeF_step ht.out hil him)
        have s2 := Lib.hid (takeF_ne (l := l) (m := m) hil him)
        obtain ⟨d1, e1⟩ : ∃ d, l[i] = d := ⟨_, rfl⟩
        obtain ⟨d2, e2⟩ : ∃ d, m[i] = d := ⟨_, rfl⟩
        rw [e1] at s1 s2 hc1 hd1 he1
        rw [e2] at s1 s2 hc2 hd2 he2
        obtain ⟨fn, fd, fs⟩ := d1
        obtain ⟨gn, gd, gs⟩ := d2
        dsimp only at s1 s2 hc1 hd1 he1 hc2 hd2 he2
        have x1 := fun W => neq_file fn fd fs gn gd gs W
        obtain ⟨q, eq⟩ : ∃ q, flEq ⟨fn, fd, fs⟩ ⟨gn, gd, gs⟩ = q := ⟨_, rfl⟩
        rw [eq] at s1 s2
        simp only [eq] at x1
        have b2 : (0 : Int) ≤ (i : Int) ∧ (i : Int) < (n : Int) := by omega
        have HI : Hid (i + 1 ≤ n) := hlt
        subst hA1
        subst hA2
        clear e1 e2 hil him hlt
        cases q
        · have HF := Lib.hid (HB.out.symm.trans (s2.out rfl))
          clear s1 s2
          go_wp2
          go_quiet (fail)
          go_wp2
          go_ret
          exact ⟨ret_b HF.out.symm, hb.out.drewN _⟩
        · have HS := Lib.hid (s1.out rfl)
          clear s1 s2
          go_wp2
          go_quiet (fail)
          go_wp2
          go_roundw
          case rel => exact ⟨i + 1, HI.out, by go_num, HS.out, hb.out.drewN _⟩
          case measure => have := HI.out; simp [intOf] <;> omega
      · have hin' : i = n := by omega
        have HT := Lib.hid (HB.out.symm.trans (takeF_end HL.out HM.out ht.out hin'))
        clear hin'
        go_wp2
        go_ret
        exact ⟨ret_b HT.out.symm, hb.out⟩
  · rw [fsEq_len h]
    have r1 : ((l.length : Int) != (m.length : Int)) = true := by rw [bne_iff_ne]; omega
    have hnb : (l.length : Int) ≤ 9223372036854775807 := by omega
    have hnc : (m.length : Int) ≤ 9223372036854775807 := by omega
    clear h hnl hnm
    go_enter Try.func34, Try.ntmps34
    go_wp2
    go_ret
    exact ⟨rfl, Bl.refl w⟩
def dkEq (r1 r2 : Int) (l m : List Fl) : Bool := (r1 == r2) && fsEq l m
theorem two_box (w : World) (t0 t1 : TypeId) (c0 c1 : List Value) : Bq ((w.alloc (.cells c0.toArray t0)).alloc (.cells c1.toArray t1)) w.heap.size t0 c0 ∧ Bq ((w.alloc (.cells c0.toArray t0)).alloc (.cells c1.toArray t1)) (w.heap.size + 1) t1 c1 := by
  have h1 := Bq.new (w.alloc (.cells c0.toArray t0)) t1 c1
  rw [World.size_alloc] at h1
  exact ⟨(Bq.new w t0 c0).alloc _, h1⟩
set_option maxRecDepth 100000 in
set_option maxHeartbeats 4000000 in
theorem pSame_any (r1 r2 : Int) (v u : Value) (l m : List Fl) (w : World) (hv : Fw w v l) (hu : Fw w u m) :
    Calls Try.prog 19 #[.agg #[.int .i64 r1, v], .agg #[.int .i64 r2, u]] w fun e w' => e = .returned (.bool (dkEq r1 r2 l m)) ∧ Bl w w' := by
  have K := Lib.hid (fun W (g : Bl w W) => pequalF_any v u l m W (hv.bl g) (hu.bl g))
  obtain ⟨A, c, rfl⟩ := fw_shape hv
  obtain ⟨B, k, rfl⟩ := fw_shape hu
  clear hv hu
  unfold dkEq
  by_cases h : r1 = r2
  · subst h
    rw [show (r1 == r1) = true by simp, Bool.true_and]
    go_enter Try.func19, Try.ntmps19
    go_wp2_with (go_at_call 34; (with_reducible refine (K.out _ (((Bl.refl w).alloc _).alloc _)).mono ?_); rintro e w1 ⟨rfl, hb⟩; have G1 := Lib.hid ((((Bl.refl w).alloc _).alloc _).trans hb); clear hb)
    go_ret
    exact ⟨by simp, G1.out⟩
  · have t0 : (r1 == r2) = false := by rw [beq_eq_false_iff_ne]; exact h
    rw [t0, Bool.false_and]
    clear h
    go_enter Try.func19, Try.ntmps19
    go_wp2
    go_ret
    exact ⟨rfl, ((Bl.refl w).alloc _).alloc _⟩
set_option maxRecDepth 100000 in
set_option maxHeartbeats 4000000 in
theorem rSame_any (r1 r2 : Int) (v u : Value) (l m : List Fl) (w : World) (hv : Fw w v l) (hu : Fw w u m) :
    Calls Try.prog 12 #[.agg #[.int .i64 r1, v], .agg #[.int .i64 r2, u]] w fun e w' => e = .returned (.bool (dkEq r1 r2 l m)) ∧ Bl w w' := by
  have hnl := fw_len hv
  have hnm := fw_len hu
  obtain ⟨A1, c1, rfl, _, _, _, hx1⟩ := hv
  obtain ⟨A2, c2, rfl, _, _, _, hx2⟩ := hu
  have H1 := Lib.hid hx1
  have H2 := Lib.hid hx2
  clear hx1 hx2
  unfold dkEq
  by_cases hr : r1 = r2
  · subst hr
    rw [show (r1 == r1) = true by simp, Bool.true_and]
    have r0 : ((r1 : Int) != r1) = false := by rw [bne_eq_false_iff_eq]
    by_cases h : l.length = m.length
    · obtain ⟨n, hn⟩ : ∃ n, l.length = n := ⟨_, rfl⟩
      obtain ⟨b, hb⟩ : ∃ b, fsEq l m = b := ⟨_, rfl⟩
      have HL := Lib.hid hn
      have HM := Lib.hid (h.symm.trans hn)
      have HB := Lib.hid hb
      rw [hb]
      rw [← h, hn]
      rw [hn] at hnl
      have hnb : (n : Int) ≤ 9223372036854775807 := by omega
      have q1 : ((n : Int) != (n : Int)) = false := by rw [bne_eq_false_iff_eq]
      have a24 := Try.isAgg49
      have z24 := Try.sizeOf49
      have B0 := Lib.hid (two_box w 24 24 [.int .i64 r1, .slice A1 n c1] [.int .i64 r1, .slice A2 n c2])
      clear hn h hb hnl hnm
      go_enter Try.func12, Try.ntmps12
      go_wp2
      obtain ⟨W0, hW0⟩ : ∃ W0, (w.alloc (.cells #[.int .i64 r1, .slice A1 n c1] 24)).alloc (.cells #[.int .i64 r1, .slice A2 n c2] 24) = W0 := ⟨_, rfl⟩
      have G0 : Hid (Bl w W0) := by show Bl w W0; rw [← hW0]; exact ((Bl.refl w).alloc _).alloc _
      have B1 : Hid (Bq W0 w.heap.size 24 [.int .i64 r1, .slice A1 n c1] ∧ Bq W0 (w.heap.size + 1) 24 [.int .i64 r1, .slice A2 n c2]) := by show _ ∧ _; rw [← hW0]; exact B0.out
      rw [hW0]
      clear hW0 B0
      go_loopw [5] (fun s wr => ∃ i : Nat, i ≤ n ∧ s = .int .i64 (i : Int) ∧ Hid (l.take i = m.take i) ∧ Hid (Bl W0 wr)) (fun s _ => n - (intOf s).toNat)
      case atStart => exact ⟨0, Nat.zero_le _, rfl, by show l.take 0 = m.take 0; simp, Bl.refl W0⟩
      case round =>
        obtain ⟨i, hin, rfl, ht, hb⟩ := hrel
        have k0 := (B1.out.1.bl hb.out).cell 1 rfl
        have k1 := (B1.out.2.bl hb.out).cell 1 rfl
        by_cases hlt : i < n
        · have hil : i < l.length := by rw [HL.out]; exact hlt
          have him : i < m.length := by rw [HM.out]; exact hlt
          obtain ⟨a1, o1, hA1, hc1, hd1, he1⟩ := (H1.out.bl (G0.out.trans hb.out)).at_ hil
          obtain ⟨a2, o2, hA2, hc2, hd2, he2⟩ := (H2.out.bl (G0.out.trans hb.out)).at_ him
          have s1 := Lib.hid (takeF_step ht.out hil him)
          have s2 := Lib.hid (takeF_ne (l := l) (m := m) hil him)
          obtain ⟨d1, e1⟩ : ∃ d, l[i] = d := ⟨_, rfl⟩
          obtain ⟨d2, e2⟩ : ∃ d, m[i] = d := ⟨_, rfl⟩
          rw [e1] at s1 s2 hc1 hd1 he1
          rw [e2] at s1 s2 hc2 hd2 he2
          obtain ⟨fn, fd, fs⟩ := d1
          obtain ⟨gn, gd, gs⟩ := d2
          dsimp only at s1 s2 hc1 hd1 he1 hc2 hd2 he2
          have x1 := fun W => neq_file fn fd fs gn gd gs W
          obtain ⟨q, eq⟩ : ∃ q, flEq ⟨fn, fd, fs⟩ ⟨gn, gd, gs⟩ = q := ⟨_, rfl⟩
          rw [eq] at s1 s2
          simp only [eq] at x1
          have b2 : (0 : Int) ≤ (i : Int) ∧ (i : Int) < (n : Int) := by omega
          have HI : Hid (i + 1 ≤ n) := hlt
          subst hA1
          subst hA2
          clear e1 e2 hil him hlt
          cases q
          · have HF := Lib.hid (HB.out.symm.trans (s2.out rfl))
            clear s1 s2
            go_wp2
            go_quiet (fail)
            go_wp2
            go_ret
            exact ⟨ret_b HF.out.symm, (G0.out.trans hb.out).drewN _⟩
          · have HS := Lib.hid (s1.out rfl)
            clear s1 s2
            go_wp2
            go_quiet (fail)
            go_wp2
            go_roundw
            case rel => exact ⟨i + 1, HI.out, by go_num, HS.out, hb.out.drewN _⟩
            case measure => have := HI.out; simp [intOf] <;> omega
        · have hin' : i = n := by omega
          have HT := Lib.hid (HB.out.symm.trans (takeF_end HL.out HM.out ht.out hin'))
          clear hin'
          go_wp2
          go_ret
          exact ⟨ret_b HT.out.symm, G0.out.trans hb.out⟩
    · rw [fsEq_len h]
      have q1 : ((l.length : Int) != (m.length : Int)) = true := by rw [bne_iff_ne]; omega
      have hnb : (l.length : Int) ≤ 9223372036854775807 := by omega
      have hnc : (m.length : Int) ≤ 9223372036854775807 := by omega
      clear h hnl hnm
      go_enter Try.func12, Try.ntmps12
      go_wp2
      go_ret
      exact ⟨rfl, ((Bl.refl w).alloc _).alloc _⟩
  · have t0 : (r1 == r2) = false := by rw [beq_eq_false_iff_ne]; exact hr
    have r0 : ((r1 : Int) != r2) = true := by rw [bne_iff_ne]; exact hr
    rw [t0, Bool.false_and]
    clear hr hnl hnm
    go_enter Try.func12, Try.ntmps12
    go_wp2
    go_ret
    exact ⟨rfl, ((Bl.refl w).alloc _).alloc _⟩
end Go.Proofs.Ytgbeflocojmhhaa
