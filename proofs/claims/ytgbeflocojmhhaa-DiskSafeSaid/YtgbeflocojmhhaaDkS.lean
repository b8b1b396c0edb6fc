/-
  The document's Right of layer 15.
-/
import Derived.Test.YtgbeflocojmhhaaDkC
namespace Go.Proofs.Ytgbeflocojmhhaa
open Go.RowKit
set_option linter.unusedVariables false
set_option linter.unusedSimpArgs false

theorem rt_not_may {room : Int} {l : List Fl} {i : Nat} (h : i < l.length) (hm : mayN l[i].n = false) : rtB room l = false := rtB_not.2 fun hr => by
  have := hr.2.2.1 _ (List.getElem_mem h)
  rw [hm] at this
  cases this
theorem rt_not_srt {room : Int} {l : List Fl} {i : Nat} (h : i + 1 < l.length) (hm : sLt (l[i]'(by omega)).n l[i + 1].n = false) : rtB room l = false := rtB_not.2 fun hr => by
  have := srt_get hr.2.2.2 (Nat.lt_succ_self i) h
  rw [hm] at this
  cases this
set_option maxRecDepth 100000 in
set_option maxHeartbeats 4000000 in
theorem rRight_any (room : Int) (v : Value) (l : List Fl) (w : World) (hv : Fw w v l) (hz : Szs l) :
    Calls Try.prog 10 #[.agg #[.int .i64 room, v]] w fun e w' => e = .returned (.bool (rtB room l)) ∧ Bl w w' := by
  have hnl := fw_len hv
  obtain ⟨n, hn⟩ : ∃ n, l.length = n := ⟨_, rfl⟩
  obtain ⟨A, c, rfl, _, _, _, hx⟩ := fw_open hv hn
  have HX := Lib.hid hx
  have HL := Lib.hid hn
  have HZ := Lib.hid hz
  obtain ⟨B, hB⟩ : ∃ B, rtB room l = B := ⟨_, rfl⟩
  have HBE := Lib.hid hB
  rw [hn] at hnl
  rw [hB]
  have hnb : (n : Int) ≤ 9223372036854775807 := by omega
  by_cases h0 : room < 0
  · have HF : Hid (B = false) := by show _ = _; rw [← hB]; exact rtB_not.2 fun hr => absurd hr.1 (by omega)
    clear hx hn hv hz hB hnl
    go_enter Try.func10, Try.ntmps10
    go_wp2
    go_ret
    exact ⟨ret_b HF.out.symm, (Bl.refl w).alloc _⟩
  · by_cases h64 : 64 < n
    · have HF : Hid (B = false) := by show _ = _; rw [← hB]; exact rtB_not.2 fun hr => absurd hr.2.1 (by omega)
      have t0 : ¬ room < 0 := h0
      have t1 : (64 : Int) < (n : Int) := by omega
      clear hx hn hv hz hB hnl h64 h0
      go_enter Try.func10, Try.ntmps10
      go_wp2
      go_ret
      exact ⟨ret_b HF.out.symm, (Bl.refl w).alloc _⟩
    · have HT : Hid (RtTo l n → B = true) := fun h => by rw [← hB]; exact rtB_iff.2 (rt_of (by omega) (by omega) (by rw [hn]; exact h))
      have HM : Hid (∀ i (h : i < l.length), mayN l[i].n = false → B = false) := fun i h hm => by rw [← hB]; exact rt_not_may h hm
      have HS : Hid (∀ i (h : i + 1 < l.length), sLt (l[i]'(by omega)).n l[i + 1].n = false → B = false) := fun i h hm => by rw [← hB]; exact rt_not_srt h hm
      have KN := Lib.hid (fun W s (hs : s.size ≤ 140737488355328) => rname_any s hs W)
      have t0 : ¬ room < 0 := h0
      have t1 : ¬ (64 : Int) < (n : Int) := by omega
      have B0 := Lib.hid (Bq.new w 24 [.int .i64 room, .slice A n c])
      clear hx hn hv hz hB hnl h64 h0
      go_enter Try.func10, Try.ntmps10
      go_wp2
      obtain ⟨W0, hW0⟩ : ∃ W0, w.alloc (.cells #[.int .i64 room, .slice A n c] 24) = W0 := ⟨_, rfl⟩
      have G0 : Hid (Bl w W0) := by show Bl w W0; rw [← hW0]; exact (Bl.refl w).alloc _
      have X0 : Hid (Bq W0 w.heap.size 24 [.int .i64 room, .slice A n c]) := by show Bq _ _ _ _; rw [← hW0]; exact B0.out
      rw [hW0]
      clear hW0 B0
      have a24 := Try.isAgg49
      have z24 := Try.sizeOf49
      go_loopw [3] (fun s wr => ∃ i : Nat, i ≤ n ∧ s = .int .i64 (i : Int) ∧ Hid (RtTo l i) ∧ Hid (Bl W0 wr)) (fun s _ => n - (intOf s).toNat)
      case atStart => exact ⟨0, Nat.zero_le _, rfl, rtTo_zero l, Bl.refl _⟩
      case round =>
        obtain ⟨i, hin, rfl, ht, hb⟩ := hrel
        have k1 := (X0.out.bl hb.out).cell 1 rfl
        by_cases hlt : i < n
        · have hil : i < l.length := by rw [HL.out]; exact hlt
          obtain ⟨a1, o1, hA1, hc1, -, -⟩ := (HX.out.bl (G0.out.trans hb.out)).at_ hil
          have hzi := (HZ.out _ (List.getElem_mem hil)).1
          have hmi := HM.out i hil
          have hst := fun h1 h2 => rtTo_step ht.out hil h1 h2
          have hsi := fun (j : Nat) (e : j + 1 = i) => HS.out j (by omega)
          have hpr : ∀ (j : Nat) (e : j + 1 = i), wr.cell? ⟨a1, o1 + j * 3, none⟩ = some (.string (l[j]'(by omega)).n) := fun j e => by
            obtain ⟨a2, o2, hA2, hp, _, _⟩ := (HX.out.bl (G0.out.trans hb.out)).at_ (i := j) (by omega)
            rw [hA1] at hA2
            simp only [Option.some.injEq, Addr.mk.injEq, and_true] at hA2
            obtain ⟨rfl, rfl⟩ := hA2
            exact hp
          subst hA1
          have b2 : (0 : Int) ≤ (i : Int) ∧ (i : Int) < (n : Int) := by omega
          have HI : Hid (i + 1 ≤ n) := hlt
          cases hm : mayN l[i].n with
          | false =>
            have HF := Lib.hid (hmi hm)
            obtain ⟨s, es⟩ : ∃ s, l[i].n = s := ⟨_, rfl⟩
            rw [es] at hc1 hzi hm
            have K1 := Lib.hid (fun W => KN.out W s hzi)
            rw [hm] at K1
            clear hmi hst hsi hpr hm hzi es hlt hil
            go_wp2_with (go_at_call 24; (with_reducible refine (K1.out _).mono ?_); rintro e w' ⟨rfl, rfl⟩)
            go_quiet (fail)
            go_wp2
            go_ret
            exact ⟨ret_b HF.out.symm, (G0.out.trans hb.out).drewN _⟩
          | true =>
            by_cases h0 : i = 0
            · subst h0
              rw [Nat.zero_mul, Nat.add_zero] at hc1
              have HS1 := Lib.hid (hst hm (fun h => absurd h (by decide)))
              obtain ⟨s, es⟩ : ∃ s, (l[0]'hil).n = s := ⟨_, rfl⟩
              rw [es] at hc1 hzi hm
              have K1 := Lib.hid (fun W => KN.out W s hzi)
              rw [hm] at K1
              clear hmi hst hsi hpr hm hzi es hlt hil
              go_wp2_with (go_at_call 24; (with_reducible refine (K1.out _).mono ?_); rintro e w' ⟨rfl, rfl⟩)
              go_quiet (fail)
              go_wp2
              go_roundw
              case rel => exact ⟨1, HI.out, by go_num, HS1.out, hb.out.drewN _⟩
              case measure => have := HI.out; simp [intOf] <;> omega
            · obtain ⟨j, rfl⟩ : ∃ j, i = j + 1 := ⟨i - 1, by omega⟩
              have hp := hpr j rfl
              have hs1 : sLt (l[j]'(by omega)).n (l[j + 1]'hil).n = true → RtTo l (j + 1 + 1) := fun h => hst hm (fun _ => h)
              have hs2 := hsi j rfl
              obtain ⟨s, es⟩ : ∃ s, (l[j + 1]'hil).n = s := ⟨_, rfl⟩
              obtain ⟨p, ep⟩ : ∃ s, (l[j]'(by omega)).n = s := ⟨_, rfl⟩
              rw [es] at hc1 hzi hm hs1 hs2
              rw [ep] at hp hs1 hs2
              have K1 := Lib.hid (fun W => KN.out W s hzi)
              rw [hm] at K1
              have r1 : ((j + 1 : Nat) : Int) - 1 = (j : Int) := by omega
              have b3 : (0 : Int) < ((j + 1 : Nat) : Int) := by omega
              have b4 : (0 : Int) ≤ (j : Int) ∧ (j : Int) < (n : Int) := by omega
              have b5 : 0 < j + 1 := by omega
              cases hq : sLt p s with
              | true =>
                have HS1 := Lib.hid (hs1 hq)
                have q1 : Op.bytesLess p.toList s.toList = true := hq
                clear hmi hst hsi hpr hm hzi es ep hlt hil hs1 hs2 hq h0
                go_wp2_with (go_at_call 24; (with_reducible refine (K1.out _).mono ?_); rintro e w' ⟨rfl, rfl⟩)
                go_quiet (fail)
                go_wp2
                go_roundw
                case rel => exact ⟨j + 1 + 1, HI.out, by go_num, HS1.out, hb.out.drewN _⟩
                case measure => have := HI.out; simp [intOf] <;> omega
              | false =>
                have HF := Lib.hid (hs2 hq)
                have q1 : Op.bytesLess p.toList s.toList = false := hq
                clear hmi hst hsi hpr hm hzi es ep hlt hil hs1 hs2 hq h0
                go_wp2_with (go_at_call 24; (with_reducible refine (K1.out _).mono ?_); rintro e w' ⟨rfl, rfl⟩)
                go_quiet (fail)
                go_wp2
                go_ret
                exact ⟨ret_b HF.out.symm, (G0.out.trans hb.out).drewN _⟩
        · have hin' : i = n := by omega
          have HQ := Lib.hid (HT.out (by rw [← hin']; exact ht.out))
          clear hin'
          go_wp2
          go_ret
          exact ⟨ret_b HQ.out.symm, G0.out.trans hb.out⟩
end Go.Proofs.Ytgbeflocojmhhaa
