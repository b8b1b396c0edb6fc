/-
  The document's Parts of layer 16: are two rows of parts the same? · The document's Right of layer 15.
-/
import Derived.Test.YtdaglbjdgdokpaaDoorPk44
import Derived.Test.YtdaglbjdgdokpaaDoorPk12
namespace Go.Proofs.YtdaglbjdgdokpaaDoor
open Go.RowKit
set_option linter.unusedVariables false
set_option linter.unusedSimpArgs false

theorem ptw_at {w : World} {v : Value} {l : List Pt} {n : Nat} (h : PtW w v l) (hn : l.length = n) : ∃ A c, v = .slice A n c ∧ (∀ i (h : i < l.length), ∃ b o, A = some ⟨b, o, none⟩ ∧ b < w.heap.size ∧ ∀ k u, l[i].cs[k]? = some u → w.cell? ⟨b, o + i * 6 + k, none⟩ = some u) ∧ ∀ x ∈ l, x.ok w := by
  obtain ⟨A, c, hv, hx, ho⟩ := h
  refine ⟨A, c, by rw [hv, hn], fun i hi => ?_, ho⟩
  obtain ⟨b, o, ha, hb, hc⟩ := hx (by omega)
  exact ⟨b, o, ha, hb, fun k u hu => hc i hi k u hu⟩
theorem sameP_self (r : Rc) : sameP r r = true := by unfold sameP; simp
set_option maxRecDepth 100000 in
set_option maxHeartbeats 8000000 in
theorem rParts_any (va vb : Value) (la lb : List Pt) (w : World) (ha : PtW w va la) (hb : PtW w vb lb) (he : la.map Pt.r = lb.map Pt.r) (hl : la.length ≤ 64) :
    Calls Tryd.prog 7 #[va, vb] w fun e w' => e = .returned (.bool true) ∧ Bl w w' := by
  have KS := Lib.hid (fun r u vp vq vt up uq ut W hp hq ht kp kq kt => rsamePart_any r u vp vq vt up uq ut W hp hq ht kp kq kt)
  obtain ⟨n, hn⟩ : ∃ n, la.length = n := ⟨_, rfl⟩
  have hm : lb.length = n := by have e1 := congrArg List.length he; rw [List.length_map, List.length_map] at e1; omega
  obtain ⟨A, c, rfl, hxa, hoa⟩ := ptw_at ha hn
  obtain ⟨B, d, rfl, hxb, hob⟩ := ptw_at hb hm
  have nb : (n : Int) ≤ 64 := by omega
  have HEQ : Hid (∀ i (h1 : i < la.length) (h2 : i < lb.length), la[i].r = lb[i].r) := fun i h1 h2 => by
    have e1 : (la.map Pt.r)[i]? = (lb.map Pt.r)[i]? := by rw [he]
    rw [List.getElem?_map, List.getElem?_map, List.getElem?_eq_getElem h1, List.getElem?_eq_getElem h2] at e1
    exact Option.some.inj e1
  have HLA := Lib.hid hn
  have HLB := Lib.hid hm
  have HXA := Lib.hid hxa
  have HXB := Lib.hid hxb
  have HOA := Lib.hid hoa
  have HOB := Lib.hid hob
  have a43 := Tryd.isAgg43
  have z43 := Tryd.sizeOf43
  clear ha hb he hl hn hm hxa hxb hoa hob
  go_enter Tryd.func7, Tryd.ntmps7
  go_wp2
  go_loopw [5] (fun s wr => ∃ i : Nat, i ≤ n ∧ s = .int .i64 (i : Int) ∧ Hid (Bl w wr)) (fun s _ => n - (intOf s).toNat)
  case atStart => exact ⟨0, Nat.zero_le _, rfl, Bl.refl _⟩
  case round =>
    obtain ⟨i, hin, rfl, hb⟩ := hrel
    by_cases hlt : i < n
    · have h1 : i < la.length := by rw [HLA.out]; exact hlt
      have h2 : i < lb.length := by rw [HLB.out]; exact hlt
      have er := HEQ.out i h1 h2
      have oa := HOA.out _ (List.getElem_mem h1)
      have ob := HOB.out _ (List.getElem_mem h2)
      obtain ⟨b1, o1, e1, hb1, hc1⟩ := HXA.out i h1
      obtain ⟨b2, o2, e2, hb2, hc2⟩ := HXB.out i h2
      subst e1; subst e2
      obtain ⟨x, ex⟩ : ∃ x, la[i] = x := ⟨_, rfl⟩
      obtain ⟨y, ey⟩ : ∃ y, lb[i] = y := ⟨_, rfl⟩
      rw [ex] at er oa hc1
      rw [ey] at er ob hc2
      obtain ⟨r, vp, vq, vt⟩ := x
      obtain ⟨u, up, uq, ut⟩ := y
      dsimp only at er
      subst er
      obtain ⟨con, dgs, gua, frm, til, lp, lq, lt, mb⟩ := r
      have KS1 := Lib.hid (fun W (g : Bl w W) => KS.out ⟨con, dgs, gua, frm, til, lp, lq, lt, mb⟩ ⟨con, dgs, gua, frm, til, lp, lq, lt, mb⟩ vp vq vt up uq ut W (oa.1.bl g) (oa.2.1.bl g) (oa.2.2.bl g) (ob.1.bl g) (ob.2.1.bl g) (ob.2.2.bl g))
      rw [sameP_self] at KS1
      dsimp only [parV] at KS1
      have f1 : ∀ k z, (Pt.cs ⟨⟨con, dgs, gua, frm, til, lp, lq, lt, mb⟩, vp, vq, vt⟩)[k]? = some z → wr.cell? ⟨b1, o1 + i * 6 + k, none⟩ = some z := fun k z h => (hb.out.cell (p := ⟨b1, o1 + i * 6 + k, none⟩) hb1).trans (hc1 k z h)
      have f2 : ∀ k z, (Pt.cs ⟨⟨con, dgs, gua, frm, til, lp, lq, lt, mb⟩, up, uq, ut⟩)[k]? = some z → wr.cell? ⟨b2, o2 + i * 6 + k, none⟩ = some z := fun k z h => (hb.out.cell (p := ⟨b2, o2 + i * 6 + k, none⟩) hb2).trans (hc2 k z h)
      have x0 := f1 0 _ rfl
      have x1 := f1 1 _ rfl
      have x2 := f1 2 _ rfl
      have x3 := f1 3 _ rfl
      have x4 := f1 4 _ rfl
      have x5 := f1 5 _ rfl
      have y0 := f2 0 _ rfl
      have y1 := f2 1 _ rfl
      have y2 := f2 2 _ rfl
      have y3 := f2 3 _ rfl
      have y4 := f2 4 _ rfl
      have y5 := f2 5 _ rfl
      rw [Nat.add_zero] at x0 y0
      have bb : (0 : Int) ≤ (i : Int) ∧ (i : Int) < (n : Int) := by omega
      have HI : Hid (i + 1 ≤ n) := hlt
      clear f1 f2 hc1 hc2 ex ey oa ob h1 h2 hlt hb1 hb2 KS
      go_wp2
      go_region_with (go_at_call 12; (with_reducible refine (KS1.out _ hb.out.drew).mono ?_); rintro e w2 ⟨rfl, hb3⟩; have G2 : Hid (Bl w w2) := hb.out.drew.trans hb3; clear hb3)
      all_goals
        go_wp2
        go_roundw
        case rel => exact ⟨i + 1, HI.out, by go_num, G2.out⟩
        case measure => have := HI.out; simp [intOf] <;> omega
    · obtain rfl : i = n := by omega
      clear hin hlt
      go_wp2
      go_ret
      exact ⟨rfl, hb.out⟩
end Go.Proofs.YtdaglbjdgdokpaaDoor
namespace Go.Proofs.YtdaglbjdgdokpaaDoor
open Go.RowKit
set_option linter.unusedVariables false
set_option linter.unusedSimpArgs false

theorem rt_not_may {room : Int} {l : List Fl} {i : Nat} (h : i < l.length) (hm : mayN l[i].n = false) : rtB room l = false := rtB_not.2 fun hr => by
  have := hr.2.2.1 _ (List.getElem_mem h)
  rw [hm] at this
  cases this
theorem rt_not_srt {room : Int} {l : List Fl} {i : Nat} (h : i + 1 < l.length) (hm : sLt (l[i]'(by omega)).n l[i + 1].n = false) : rtB room l = false := rtB_not.2 fun hr => by
  have := srt_get hr.2.2.2 (Nat.lt_succ_self i) h
  rw [hm] at this
  cases this
set_option maxRecDepth 100000 in
set_option maxHeartbeats 4000000 in
theorem rRight_any (room : Int) (v : Value) (l : List Fl) (w : World) (hv : Fw w v l) (hz : Szs l) :
    Calls Tryd.prog 6 #[.agg #[.int .i64 room, v]] w fun e w' => e = .returned (.bool (rtB room l)) ∧ Bl w w' := by
  have hnl := fw_len hv
  obtain ⟨n, hn⟩ : ∃ n, l.length = n := ⟨_, rfl⟩
  obtain ⟨A, c, rfl, _, _, _, hx⟩ := fw_open hv hn
  have HX := Lib.hid hx
  have HL := Lib.hid hn
  have HZ := Lib.hid hz
  obtain ⟨B, hB⟩ : ∃ B, rtB room l = B := ⟨_, rfl⟩
  have HBE := Lib.hid hB
  rw [hn] at hnl
  rw [hB]
  have hnb : (n : Int) ≤ 9223372036854775807 := by omega
  by_cases h0 : room < 0
  · have HF : Hid (B = false) := by show _ = _; rw [← hB]; exact rtB_not.2 fun hr => absurd hr.1 (by omega)
    clear hx hn hv hz hB hnl
    go_enter Tryd.func6, Tryd.ntmps6
    go_wp2
    go_ret
    exact ⟨ret_b HF.out.symm, (Bl.refl w).alloc _⟩
  · by_cases h64 : 64 < n
    · have HF : Hid (B = false) := by show _ = _; rw [← hB]; exact rtB_not.2 fun hr => absurd hr.2.1 (by omega)
      have t0 : ¬ room < 0 := h0
      have t1 : (64 : Int) < (n : Int) := by omega
      clear hx hn hv hz hB hnl h64 h0
      go_enter Tryd.func6, Tryd.ntmps6
      go_wp2
      go_ret
      exact ⟨ret_b HF.out.symm, (Bl.refl w).alloc _⟩
    · have HT : Hid (RtTo l n → B = true) := fun h => by rw [← hB]; exact rtB_iff.2 (rt_of (by omega) (by omega) (by rw [hn]; exact h))
      have HM : Hid (∀ i (h : i < l.length), mayN l[i].n = false → B = false) := fun i h hm => by rw [← hB]; exact rt_not_may h hm
      have HS : Hid (∀ i (h : i + 1 < l.length), sLt (l[i]'(by omega)).n l[i + 1].n = false → B = false) := fun i h hm => by rw [← hB]; exact rt_not_srt h hm
      have KN := Lib.hid (fun W s (hs : s.size ≤ 140737488355328) => rname_any s hs W)
      have t0 : ¬ room < 0 := h0
      have t1 : ¬ (64 : Int) < (n : Int) := by omega
      have B0 := Lib.hid (Bq.new w 24 [.int .i64 room, .slice A n c])
      clear hx hn hv hz hB hnl h64 h0
      go_enter Tryd.func6, Tryd.ntmps6
      go_wp2
      obtain ⟨W0, hW0⟩ : ∃ W0, w.alloc (.cells #[.int .i64 room, .slice A n c] 24) = W0 := ⟨_, rfl⟩
      have G0 : Hid (Bl w W0) := by show Bl w W0; rw [← hW0]; exact (Bl.refl w).alloc _
      have X0 : Hid (Bq W0 w.heap.size 24 [.int .i64 room, .slice A n c]) := by show Bq _ _ _ _; rw [← hW0]; exact B0.out
      rw [hW0]
      clear hW0 B0
      have a24 := Tryd.isAgg39
      have z24 := Tryd.sizeOf39
      go_loopw [3] (fun s wr => ∃ i : Nat, i ≤ n ∧ s = .int .i64 (i : Int) ∧ Hid (RtTo l i) ∧ Hid (Bl W0 wr)) (fun s _ => n - (intOf s).toNat)
      case atStart => exact ⟨0, Nat.zero_le _, rfl, rtTo_zero l, Bl.refl _⟩
      case round =>
        obtain ⟨i, hin, rfl, ht, hb⟩ := hrel
        have k1 := (X0.out.bl hb.out).cell 1 rfl
        by_cases hlt : i < n
        · have hil : i < l.length := by rw [HL.out]; exact hlt
          obtain ⟨a1, o1, hA1, hc1, -, -⟩ := (HX.out.bl (G0.out.trans hb.out)).at_ hil
          have hzi := (HZ.out _ (List.getElem_mem hil)).1
          have hmi := HM.out i hil
          have hst := fun h1 h2 => rtTo_step ht.out hil h1 h2
          have hsi := fun (j : Nat) (e : j + 1 = i) => HS.out j (by omega)
          have hpr : ∀ (j : Nat) (e : j + 1 = i), wr.cell? ⟨a1, o1 + j * 3, none⟩ = some (.string (l[j]'(by omega)).n) := fun j e => by
            obtain ⟨a2, o2, hA2, hp, _, _⟩ := (HX.out.bl (G0.out.trans hb.out)).at_ (i := j) (by omega)
            rw [hA1] at hA2
            simp only [Option.some.injEq, Addr.mk.injEq, and_true] at hA2
            obtain ⟨rfl, rfl⟩ := hA2
            exact hp
          subst hA1
          have b2 : (0 : Int) ≤ (i : Int) ∧ (i : Int) < (n : Int) := by omega
          have HI : Hid (i + 1 ≤ n) := hlt
          cases hm : mayN l[i].n with
          | false =>
            have HF := Lib.hid (hmi hm)
            obtain ⟨s, es⟩ : ∃ s, l[i].n = s := ⟨_, rfl⟩
            rw [es] at hc1 hzi hm
            have K1 := Lib.hid (fun W => KN.out W s hzi)
            rw [hm] at K1
            clear hmi hst hsi hpr hm hzi es hlt hil
            go_wp2_with (go_at_call 11; (with_reducible refine (K1.out _).mono ?_); rintro e w' ⟨rfl, rfl⟩)
            go_quiet (fail)
            go_wp2
            go_ret
            exact ⟨ret_b HF.out.symm, (G0.out.trans hb.out).drewN _⟩
          | true =>
            by_cases h0 : i = 0
            · subst h0
              rw [Nat.zero_mul, Nat.add_zero] at hc1
              have HS1 := Lib.hid (hst hm (fun h => absurd h (by decide)))
              obtain ⟨s, es⟩ : ∃ s, (l[0]'hil).n = s := ⟨_, rfl⟩
              rw [es] at hc1 hzi hm
              have K1 := Lib.hid (fun W => KN.out W s hzi)
              rw [hm] at K1
              clear hmi hst hsi hpr hm hzi es hlt hil
              go_wp2_with (go_at_call 11; (with_reducible refine (K1.out _).mono ?_); rintro e w' ⟨rfl, rfl⟩)
              go_quiet (fail)
              go_wp2
              go_roundw
              case rel => exact ⟨1, HI.out, by go_num, HS1.out, hb.out.drewN _⟩
              case measure => have := HI.out; simp [intOf] <;> omega
            · obtain ⟨j, rfl⟩ : ∃ j, i = j + 1 := ⟨i - 1, by omega⟩
              have hp := hpr j rfl
              have hs1 : sLt (l[j]'(by omega)).n (l[j + 1]'hil).n = true → RtTo l (j + 1 + 1) := fun h => hst hm (fun _ => h)
              have hs2 := hsi j rfl
              obtain ⟨s, es⟩ : ∃ s, (l[j + 1]'hil).n = s := ⟨_, rfl⟩
              obtain ⟨p, ep⟩ : ∃ s, (l[j]'(by omega)).n = s := ⟨_, rfl⟩
              rw [es] at hc1 hzi hm hs1 hs2
              rw [ep] at hp hs1 hs2
              have K1 := Lib.hid (fun W => KN.out W s hzi)
              rw [hm] at K1
              have r1 : ((j + 1 : Nat) : Int) - 1 = (j : Int) := by omega
              have b3 : (0 : Int) < ((j + 1 : Nat) : Int) := by omega
              have b4 : (0 : Int) ≤ (j : Int) ∧ (j : Int) < (n : Int) := by omega
              have b5 : 0 < j + 1 := by omega
              cases hq : sLt p s with
              | true =>
                have HS1 := Lib.hid (hs1 hq)
                have q1 : Op.bytesLess p.toList s.toList = true := hq
                clear hmi hst hsi hpr hm hzi es ep hlt hil hs1 hs2 hq h0
                go_wp2_with (go_at_call 11; (with_reducible refine (K1.out _).mono ?_); rintro e w' ⟨rfl, rfl⟩)
                go_quiet (fail)
                go_wp2
                go_roundw
                case rel => exact ⟨j + 1 + 1, HI.out, by go_num, HS1.out, hb.out.drewN _⟩
                case measure => have := HI.out; simp [intOf] <;> omega
              | false =>
                have HF := Lib.hid (hs2 hq)
                have q1 : Op.bytesLess p.toList s.toList = false := hq
                clear hmi hst hsi hpr hm hzi es ep hlt hil hs1 hs2 hq h0
                go_wp2_with (go_at_call 11; (with_reducible refine (K1.out _).mono ?_); rintro e w' ⟨rfl, rfl⟩)
                go_quiet (fail)
                go_wp2
                go_ret
                exact ⟨ret_b HF.out.symm, (G0.out.trans hb.out).drewN _⟩
        · have hin' : i = n := by omega
          have HQ := Lib.hid (HT.out (by rw [← hin']; exact ht.out))
          clear hin'
          go_wp2
          go_ret
          exact ⟨ret_b HQ.out.symm, G0.out.trans hb.out⟩
end Go.Proofs.YtdaglbjdgdokpaaDoor
