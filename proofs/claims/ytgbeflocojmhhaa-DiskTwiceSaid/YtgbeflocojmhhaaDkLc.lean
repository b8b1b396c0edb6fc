/-
  The walk of DiskTwice (printed by gen/dklc.py).
-/
import Derived.Test.YtgbeflocojmhhaaDkV
import Derived.Test.YtgbeflocojmhhaaDkS
import Derived.Test.YtgbeflocojmhhaaDkN
import Derived.Test.YtgbeflocojmhhaaDkI
namespace Go.Proofs.Ytgbeflocojmhhaa
open Go.RowKit
set_option linter.unusedVariables false
set_option linter.unusedSimpArgs false

theorem rw_one {W : World} {b : Nat} (x : Nat) (t : TypeId) (hb : b = W.heap.size) : Rw .u64 (W.alloc (.cells #[.int .u64 (x : Int)] t)) (.slice (some ⟨b, 0, none⟩) 1 1) [x] := by
  subst hb
  refine ⟨some ⟨W.heap.size, 0, none⟩, 1, rfl, Nat.le_refl _, by decide, (fun h => by cases h), fun _ => ⟨⟨W.heap.size, 0, none⟩, rfl, (Bq.new W t [.int .u64 (x : Int)]).lt, fun i h => ?_⟩⟩
  obtain rfl : i = 0 := by simpa using h
  exact (Bq.new W t [.int .u64 (x : Int)]).cell 0 rfl
theorem dkEq_eq (room : Int) (l : List Fl) : dkEq room room l l = true := by unfold dkEq; rw [fsEq_iff.2 rfl]; simp
set_option maxRecDepth 100000 in
set_option maxHeartbeats 8000000 in
theorem twice_no (room : Int) (u : Value) (l : List Fl) (hz : Szs l) (va : Value) (a : List Nat) (ha : All 18446744073709551616 a) (vb : Value) (b : List Nat) (hb' : All 18446744073709551616 b) (w : World) (hf : Fw w u l) (hra : Rw .u64 w va a) (hrb : Rw .u64 w vb b) (hrt : rtB room l = false) :
    Calls Try.prog 8 #[.agg #[.int .i64 room, u], va, vb] w fun e w' => e = .returned (.bool true) ∧ Bl w w' := by
  have KS := Lib.hid (fun W => shown15 W)
  have KR := Lib.hid (fun W (g : Bl w W) => rRight_any room u l W (hf.bl g) hz)
  rw [hrt] at KR
  obtain ⟨N, hN⟩ : ∃ N, l.length = N := ⟨_, rfl⟩
  obtain ⟨A, c, rfl, _, _, _, hx⟩ := fw_open hf hN
  have HX := Lib.hid hx
  have HN := Lib.hid hN
  have BD0 := Lib.hid (Bq.new w 24 [.int .i64 room, .slice A N c])
  clear hf hz hrt ha hb' hra hrb hN hx
  go_enter Try.func8, Try.ntmps8
  go_wp2_with (first
    | (go_at_call 9; (with_reducible refine (KS.out _).mono ?_); rintro e w1 ⟨rfl, hb⟩; have G1 := Lib.hid (((Bl.refl w).alloc (.cells #[.int .i64 room, .slice A N c] 24)).trans hb); have BD1 := Lib.hid (BD0.out.bl hb); have cD0_1 := BD1.out.cell 0 rfl; have cD1_1 := BD1.out.cell 1 rfl; clear hb)
    | (go_at_call 10; (with_reducible refine (KR.out _ G1.out).mono ?_); rintro e w2 ⟨rfl, hb⟩; have G2 := Lib.hid (G1.out.trans hb); have BD2 := Lib.hid (BD1.out.bl hb); have cD0_2 := BD2.out.cell 0 rfl; have cD1_2 := BD2.out.cell 1 rfl; clear hb))
  go_ret
  exact ⟨rfl, G2.out⟩
set_option maxRecDepth 100000 in
set_option maxHeartbeats 8000000 in
theorem twice_yes (room : Int) (u : Value) (l : List Fl) (hz : Szs l) (va : Value) (a : List Nat) (ha : All 18446744073709551616 a) (vb : Value) (b : List Nat) (hb' : All 18446744073709551616 b) (w : World) (hf : Fw w u l) (hra : Rw .u64 w va a) (hrb : Rw .u64 w vb b) (hrt : rtB room l = true) :
    Calls Try.prog 8 #[.agg #[.int .i64 room, u], va, vb] w fun e w' => e = .returned (.bool true) ∧ Bl w w' := by
  have KS := Lib.hid (fun W => shown15 W)
  have KR := Lib.hid (fun W (g : Bl w W) => rRight_any room u l W (hf.bl g) hz)
  rw [hrt] at KR
  have hR := rtB_iff.1 hrt
  have hl : l.length < 1000 := by have := hR.2.1; omega
  have KC := Lib.hid (fun W (g : Bl w W) => pCrash_any room u va l a W (hf.bl g) (hra.bl g) ha hl hz)
  have KO : Hid (∀ W b', b' = W.heap.size → Bl w W → Calls Try.prog 13 #[.agg #[.int .i64 room, u], .slice (some ⟨b', 0, none⟩) 1 1] (W.alloc (.cells #[.int .u64 18446744073709551615] 54)) (OneEnd (W.alloc (.cells #[.int .u64 18446744073709551615] 54)) room (cr l [18446744073709551615]))) := fun W b' hb g => pCrash_any room u _ l [18446744073709551615] _ (hf.bl (g.alloc _)) (rw_one 18446744073709551615 _ hb) (all_cons (by decide) (all_nil _)) hl hz
  have KX := Lib.hid (fun W v (g : Bl w W) (hv : Fw W v (cr l a)) => pCrash_any room v vb (cr l a) b W hv (hrb.bl g) hb' (by rw [cr_len]; exact hl) (szs_cr hz a))
  rw [cr_twice] at KX
  have KE := Lib.hid (fun W v1 v2 (h1 : Fw W v1 (cr l a)) (h2 : Fw W v2 (cr l a)) => pSame_any room room v1 v2 _ _ W h1 h2)
  rw [dkEq_eq] at KE
  have HALL := Lib.hid (cr_all l)
  have a24 := Try.isAgg49
  have z24 := Try.sizeOf49
  obtain ⟨N, hN⟩ : ∃ N, l.length = N := ⟨_, rfl⟩
  obtain ⟨A, c, rfl, _, _, _, hx⟩ := fw_open hf hN
  have HX := Lib.hid hx
  have HN := Lib.hid hN
  have BD0 := Lib.hid (Bq.new w 24 [.int .i64 room, .slice A N c])
  clear hf hz ha hb' hra hrb hx hrt
  have HCA : Hid ((cr l a).length = N) := by show _ = _; rw [cr_len]; exact hN
  have HCO : Hid ((cr l [18446744073709551615]).length = N) := by show _ = _; rw [cr_len]; exact hN
  have hNb : (N : Int) ≤ 1000 := by omega
  clear hN hl hR
  go_enter Try.func8, Try.ntmps8
  go_wp2_with (first
    | (go_at_call 9; (with_reducible refine (KS.out _).mono ?_); rintro e w1 ⟨rfl, hb⟩; have G1 := Lib.hid (((Bl.refl w).alloc (.cells #[.int .i64 room, .slice A N c] 24)).trans hb); have BD1 := Lib.hid (BD0.out.bl hb); have cD0_1 := BD1.out.cell 0 rfl; have cD1_1 := BD1.out.cell 1 rfl; clear hb)
    | (go_at_call 10; (with_reducible refine (KR.out _ G1.out).mono ?_); rintro e w2 ⟨rfl, hb⟩; have G2 := Lib.hid (G1.out.trans hb); have BD2 := Lib.hid (BD1.out.bl hb); have cD0_2 := BD2.out.cell 0 rfl; have cD1_2 := BD2.out.cell 1 rfl; clear hb)
    | (go_at_call 13; (with_reducible refine (KC.out _ G2.out).mono ?_); rintro e w3 ⟨v3, rfl, hv, hb⟩; obtain ⟨A3, c3, rfl, -⟩ := fw_open hv HCA.out; have G3 := Lib.hid (G2.out.trans hb); have BD3 := Lib.hid (BD2.out.bl hb); have RC3 := Lib.hid (hv); have G3' := Lib.hid (G3.out.alloc (.cells #[.int .i64 room, .slice A3 N c3] 24)); have BD3' := Lib.hid (BD3.out.alloc (.cells #[.int .i64 room, .slice A3 N c3] 24)); have RC3' := Lib.hid (RC3.out.bl ((Bl.refl w3).alloc (.cells #[.int .i64 room, .slice A3 N c3] 24))); have BC3' := Lib.hid (Bq.new w3 24 [.int .i64 room, .slice A3 N c3]); have cD0_3 := BD3'.out.cell 0 rfl; have cD1_3 := BD3'.out.cell 1 rfl; have cC0_3 := BC3'.out.cell 0 rfl; have cC1_3 := BC3'.out.cell 1 rfl; clear hb)
    | (go_at_call 13; (with_reducible refine (KO.out _ _ (by simp) G3'.out).mono ?_); rintro e w4 ⟨v4, rfl, hv, hb⟩; obtain ⟨A4, c4, rfl, _, _, _, hy⟩ := fw_open hv HCO.out; have HY := Lib.hid hy; clear hy; have G4 := Lib.hid ((G3'.out.alloc (.cells #[.int .u64 18446744073709551615] 54)).trans hb); have BD4 := Lib.hid ((BD3'.out.alloc (.cells #[.int .u64 18446744073709551615] 54)).bl hb); have BC4 := Lib.hid ((BC3'.out.alloc (.cells #[.int .u64 18446744073709551615] 54)).bl hb); have RC4 := Lib.hid ((RC3'.out.bl ((Bl.refl _).alloc (.cells #[.int .u64 18446744073709551615] 54))).bl hb); have G4' := Lib.hid (G4.out.alloc (.cells #[.int .i64 room, .slice A4 N c4] 24)); have BD4' := Lib.hid (BD4.out.alloc (.cells #[.int .i64 room, .slice A4 N c4] 24)); have BC4' := Lib.hid (BC4.out.alloc (.cells #[.int .i64 room, .slice A4 N c4] 24)); have RC4' := Lib.hid (RC4.out.bl ((Bl.refl w4).alloc (.cells #[.int .i64 room, .slice A4 N c4] 24))); have BL4' := Lib.hid (Bq.new w4 24 [.int .i64 room, .slice A4 N c4]); have cD0_4 := BD4'.out.cell 0 rfl; have cD1_4 := BD4'.out.cell 1 rfl; have cC0_4 := BC4'.out.cell 0 rfl; have cC1_4 := BC4'.out.cell 1 rfl; have cL0_4 := BL4'.out.cell 0 rfl; have cL1_4 := BL4'.out.cell 1 rfl; clear hb))
  go_loopw [11] (fun s wr => ∃ i : Nat, i ≤ N ∧ s = .int .i64 (i : Int) ∧ Hid (Bl (w4.alloc (.cells #[.int .i64 room, .slice A4 N c4] 24)) wr)) (fun s _ => N - (intOf s).toNat)
  case atStart => exact ⟨0, Nat.zero_le _, rfl, Bl.refl _⟩
  case round =>
    obtain ⟨i, hin, rfl, hbw⟩ := hrel
    have G5 := Lib.hid (G4'.out.trans hbw.out)
    have BD5 := Lib.hid (BD4'.out.bl hbw.out)
    have BC5 := Lib.hid (BC4'.out.bl hbw.out)
    have BL5 := Lib.hid (BL4'.out.bl hbw.out)
    have RC5 := Lib.hid (RC4'.out.bl hbw.out)
    have cD0_5 := BD5.out.cell 0 rfl; have cD1_5 := BD5.out.cell 1 rfl
    have cC0_5 := BC5.out.cell 0 rfl; have cC1_5 := BC5.out.cell 1 rfl
    have cL0_5 := BL5.out.cell 0 rfl; have cL1_5 := BL5.out.cell 1 rfl
    by_cases hlt : i < N
    · have hil : i < l.length := by rw [HN.out]; exact hlt
      obtain ⟨a1, o1, hA1, hn1, hd1, -⟩ := (HX.out.bl G5.out).at_ hil
      obtain ⟨h5, e5d, e5n⟩ := HALL.out i hil
      obtain ⟨a2, o2, hA2, hn2, hd2, -⟩ := (HY.out.bl (((Bl.refl _).alloc _).trans hbw.out)).at_ h5
      rw [e5d] at hd2
      rw [e5n] at hn2
      obtain ⟨sd, esd⟩ : ∃ s, l[i].d = s := ⟨_, rfl⟩
      obtain ⟨sn, esn⟩ : ∃ s, l[i].n = s := ⟨_, rfl⟩
      rw [esd] at hd1 hd2
      rw [esn] at hn1 hn2
      subst hA1
      subst hA2
      have b2 : (0 : Int) ≤ (i : Int) ∧ (i : Int) < (N : Int) := by omega
      have HI : Hid (i + 1 ≤ N) := hlt
      clear hlt esd esn e5d e5n h5 hil
      go_wp2
      go_quiet (fail)
      go_wp2
      go_roundw
      case rel => exact ⟨i + 1, HI.out, by go_num, hbw.out.drewN _⟩
      case measure => have := HI.out; simp [intOf] <;> omega
    · obtain rfl : i = N := by omega
      clear hlt
      go_wp2
      have G6 := Lib.hid (G5.out.drew)
      have BD6 := Lib.hid (BD5.out.drew)
      have BC6 := Lib.hid (BC5.out.drew)
      have BL6 := Lib.hid (BL5.out.drew)
      have RC6 := Lib.hid (RC5.out.bl (Bl.refl _).drew)
      go_region_with (first
        | (go_at_call 13; (with_reducible refine (KX.out _ _ G6.out RC6.out).mono ?_); rintro e w7 ⟨v7, rfl, hv, hb⟩; have G7 := Lib.hid (G6.out.trans hb); have BD7 := Lib.hid (BD6.out.bl hb); have BC7 := Lib.hid (BC6.out.bl hb); have BL7 := Lib.hid (BL6.out.bl hb); have RC7 := Lib.hid (RC6.out.bl hb); have RX7 := Lib.hid (hv); have cD0_7 := BD7.out.cell 0 rfl; have cD1_7 := BD7.out.cell 1 rfl; have cC0_7 := BC7.out.cell 0 rfl; have cC1_7 := BC7.out.cell 1 rfl; have cL0_7 := BL7.out.cell 0 rfl; have cL1_7 := BL7.out.cell 1 rfl; clear hb)
        | (go_at_call 19; (with_reducible refine (KE.out _ _ _ RX7.out RC7.out).mono ?_); rintro e w8 ⟨rfl, hb⟩; have G8 := Lib.hid (G7.out.trans hb); have BD8 := Lib.hid (BD7.out.bl hb); have BC8 := Lib.hid (BC7.out.bl hb); have BL8 := Lib.hid (BL7.out.bl hb); have RC8 := Lib.hid (RC7.out.bl hb); have RX8 := Lib.hid (RX7.out.bl hb); have cD0_8 := BD8.out.cell 0 rfl; have cD1_8 := BD8.out.cell 1 rfl; have cC0_8 := BC8.out.cell 0 rfl; have cC1_8 := BC8.out.cell 1 rfl; have cL0_8 := BL8.out.cell 0 rfl; have cL1_8 := BL8.out.cell 1 rfl; clear hb))
      all_goals go_wp2
      all_goals go_ret
      all_goals exact ⟨rfl, G8.out⟩
theorem diskTwice_walk (room : Int) (u : Value) (l : List Fl) (hb : -9223372036854775808 ≤ room ∧ room ≤ 9223372036854775807) (hz : Szs l) (va : Value) (a : List Nat) (ha : All 18446744073709551616 a) (vb : Value) (b : List Nat) (hb' : All 18446744073709551616 b) (w : World) (hf : Fw w u l) (hra : Rw .u64 w va a) (hrb : Rw .u64 w vb b) :
    Calls Try.prog 8 #[.agg #[.int .i64 room, u], va, vb] w fun e w' => e = .returned (.bool true) ∧ Bl w w' := by
  cases hrt : rtB room l with
  | false => exact twice_no room u l hz va a ha vb b hb' w hf hra hrb hrt
  | true => exact twice_yes room u l hz va a ha vb b hb' w hf hra hrb hrt
end Go.Proofs.Ytgbeflocojmhhaa
