/-
  The walk of DiskSafe (printed by gen/dklg.py).
-/
import Derived.Test.YtgbeflocojmhhaaDkV
import Derived.Test.YtgbeflocojmhhaaDkS
import Derived.Test.YtgbeflocojmhhaaDkN
import Derived.Test.YtgbeflocojmhhaaDkI
import Derived.Test.YtgbeflocojmhhaaDkY
import Derived.Deep.RegionHeld3
namespace Go.Proofs.Ytgbeflocojmhhaa
open Go.RowKit
set_option linter.unusedVariables false
set_option linter.unusedSimpArgs false

theorem dkEq_one (room : Int) (l : List Fl) : dkEq room room l l = true := by unfold dkEq; rw [fsEq_iff.2 rfl]; simp
theorem keep4 {w0 W w : World} {b c : Nat} {v0 v1 u0 u1 : Value} (h : W.cell? ⟨b, 0, none⟩ = some v0 ∧ W.cell? ⟨b, 1, none⟩ = some v1 ∧ W.cell? ⟨c, 0, none⟩ = some u0 ∧ W.cell? ⟨c, 1, none⟩ = some u1 ∧ b < W.heap.size ∧ c < W.heap.size ∧ Bl w0 W) (g : Bl W w) :
    w.cell? ⟨b, 0, none⟩ = some v0 ∧ w.cell? ⟨b, 1, none⟩ = some v1 ∧ w.cell? ⟨c, 0, none⟩ = some u0 ∧ w.cell? ⟨c, 1, none⟩ = some u1 ∧ b < w.heap.size ∧ c < w.heap.size ∧ Bl w0 w := by
  obtain ⟨h0, h1, k0, k1, hb, hc, hg⟩ := h
  exact ⟨(g.cell (p := ⟨b, 0, none⟩) hb).trans h0, (g.cell (p := ⟨b, 1, none⟩) hb).trans h1, (g.cell (p := ⟨c, 0, none⟩) hc).trans k0, (g.cell (p := ⟨c, 1, none⟩) hc).trans k1, Nat.lt_of_lt_of_le hb g.size, Nat.lt_of_lt_of_le hc g.size, hg.trans g⟩
set_option maxRecDepth 100000 in
set_option maxHeartbeats 8000000 in
theorem safe_no (room : Int) (u : Value) (l : List Fl) (hz : Szs l) (s : ByteArray) (hs : s.size ≤ 140737488355328) (vm : Value) (ms : List Nat) (ha : All 18446744073709551616 ms) (w : World) (hf : Fw w u l) (hr : Rw .u64 w vm ms) (hrt : rtB room l = false) :
    Calls Try.prog 4 #[.agg #[.int .i64 room, u], .string s, vm] w fun e w' => e = .returned (.bool true) ∧ Bl w w' := by
  have KS := Lib.hid (fun W => shown15 W)
  have KR := Lib.hid (fun W (g : Bl w W) => rRight_any room u l W (hf.bl g) hz)
  rw [hrt] at KR
  obtain ⟨N, hN⟩ : ∃ N, l.length = N := ⟨_, rfl⟩
  obtain ⟨A, c, rfl, -⟩ := fw_open hf hN
  have BD0 := Lib.hid (Bq.new w 24 [.int .i64 room, .slice A N c])
  clear hf hz hrt hs ha hr hN
  go_enter Try.func4, Try.ntmps4
  go_wp2_with (first
    | (go_at_call 9; (with_reducible refine (KS.out _).mono ?_); rintro e w1 ⟨rfl, hb⟩; have G1 := Lib.hid (((Bl.refl w).alloc (.cells #[.int .i64 room, .slice A N c] 24)).trans hb); have BD1 := Lib.hid (BD0.out.bl hb); have cD0_1 := BD1.out.cell 0 rfl; have cD1_1 := BD1.out.cell 1 rfl; clear hb)
    | (go_at_call 10; (with_reducible refine (KR.out _ G1.out).mono ?_); rintro e w2 ⟨rfl, hb⟩; have G2 := Lib.hid (G1.out.trans hb); have BD2 := Lib.hid (BD1.out.bl hb); have cD0_2 := BD2.out.cell 0 rfl; have cD1_2 := BD2.out.cell 1 rfl; clear hb))
  go_ret
  exact ⟨rfl, G2.out⟩
set_option maxRecDepth 100000 in
set_option maxHeartbeats 8000000 in
theorem safe_none (room : Int) (u : Value) (l : List Fl) (hz : Szs l) (s : ByteArray) (hs : s.size ≤ 140737488355328) (vm : Value) (ms : List Nat) (ha : All 18446744073709551616 ms) (w : World) (hf : Fw w u l) (hr : Rw .u64 w vm ms) (hrt : rtB room l = true) (he : fE l s = 9) :
    Calls Try.prog 4 #[.agg #[.int .i64 room, u], .string s, vm] w fun e w' => e = .returned (.bool true) ∧ Bl w w' := by
  have KS := Lib.hid (fun W => shown15 W)
  have KR := Lib.hid (fun W (g : Bl w W) => rRight_any room u l W (hf.bl g) hz)
  rw [hrt] at KR
  have hl : l.length < 1000000 := by have := (rtB_iff.1 hrt).2.1; omega
  have KY := Lib.hid (fun W (g : Bl w W) => pSync_any room u l s W (hf.bl g) hl)
  rw [he] at KY
  obtain ⟨N, hN⟩ : ∃ N, l.length = N := ⟨_, rfl⟩
  obtain ⟨A, c, rfl, -⟩ := fw_open hf hN
  have BD0 := Lib.hid (Bq.new w 24 [.int .i64 room, .slice A N c])
  clear hf hz hrt hs ha hr hN hl he
  go_enter Try.func4, Try.ntmps4
  go_wp2_with (first
    | (go_at_call 9; (with_reducible refine (KS.out _).mono ?_); rintro e w1 ⟨rfl, hb⟩; have G1 := Lib.hid (((Bl.refl w).alloc (.cells #[.int .i64 room, .slice A N c] 24)).trans hb); have BD1 := Lib.hid (BD0.out.bl hb); have cD0_1 := BD1.out.cell 0 rfl; have cD1_1 := BD1.out.cell 1 rfl; clear hb)
    | (go_at_call 10; (with_reducible refine (KR.out _ G1.out).mono ?_); rintro e w2 ⟨rfl, hb⟩; have G2 := Lib.hid (G1.out.trans hb); have BD2 := Lib.hid (BD1.out.bl hb); have cD0_2 := BD2.out.cell 0 rfl; have cD1_2 := BD2.out.cell 1 rfl; clear hb)
    | (go_at_call 15; (with_reducible refine (KY.out _ G2.out).mono ?_); rintro e w3 ⟨v3, rfl, hv, hb⟩; obtain ⟨A3, c3, rfl⟩ := fw_shape hv; have G3 := Lib.hid (G2.out.trans hb); have BD3 := Lib.hid (BD2.out.bl hb); have RK3 := Lib.hid (hv); have G3' := Lib.hid (G3.out.alloc (.cells #[.int .i64 room, .slice A3 (syR l s).length c3] 24)); have BD3' := Lib.hid (BD3.out.alloc (.cells #[.int .i64 room, .slice A3 (syR l s).length c3] 24)); have RK3' := Lib.hid (RK3.out.bl ((Bl.refl w3).alloc (.cells #[.int .i64 room, .slice A3 (syR l s).length c3] 24))); have BK3' := Lib.hid (Bq.new w3 24 [.int .i64 room, .slice A3 (syR l s).length c3]); have cD0_3 := BD3'.out.cell 0 rfl; have cD1_3 := BD3'.out.cell 1 rfl; have cK0_3 := BK3'.out.cell 0 rfl; have cK1_3 := BK3'.out.cell 1 rfl; clear hb))
  go_ret
  exact ⟨rfl, G3'.out⟩
set_option maxRecDepth 100000 in
set_option maxHeartbeats 8000000 in
theorem safe_yes (room : Int) (u : Value) (l : List Fl) (hz : Szs l) (s : ByteArray) (hs : s.size ≤ 140737488355328) (vm : Value) (ms : List Nat) (ha : All 18446744073709551616 ms) (w : World) (hf : Fw w u l) (hr : Rw .u64 w vm ms) (hrt : rtB room l = true) (he : fE l s = 0) :
    Calls Try.prog 4 #[.agg #[.int .i64 room, u], .string s, vm] w fun e w' => e = .returned (.bool true) ∧ Bl w w' := by
  have KS := Lib.hid (fun W => shown15 W)
  have KR := Lib.hid (fun W (g : Bl w W) => rRight_any room u l W (hf.bl g) hz)
  rw [hrt] at KR
  have hR := rtB_iff.1 hrt
  have hS := hR.2.2.2
  have hl : l.length < 1000000 := by have := hR.2.1; omega
  have hsl : (syR l s).length < 1000 := by rw [sy_len hS he]; have := hR.2.1; omega
  have hcl : (cr (syR l s) ms).length < 1000 := by rw [cr_len]; exact hsl
  have hsz := szs_sy hz s
  have hcz := szs_cr hsz ms
  have hsafe := sy_safe hS he ms
  have hnames : (cr (syR l s) ms).map Fl.n = l.map Fl.n := (cr_names _ _).trans (sy_names hS he)
  have KY := Lib.hid (fun W (g : Bl w W) => pSync_any room u l s W (hf.bl g) hl)
  rw [he] at KY
  have KC := Lib.hid (fun W v (g : Bl w W) (hv : Fw W v (syR l s)) => pCrash_any room v vm (syR l s) ms W hv (hr.bl g) ha hsl hsz)
  have KD1 := Lib.hid (fun W (g : Bl w W) => pRead_any room u l s W (hf.bl g))
  rw [hsafe.1] at KD1
  have KD2 := Lib.hid (fun W v (hv : Fw W v (cr (syR l s) ms)) => pRead_any room v _ s W hv)
  rw [hsafe.2.1, hsafe.2.2] at KD2
  have KL1 := Lib.hid (fun W v (hv : Fw W v (cr (syR l s) ms)) => pList_any room v _ W hv (Nat.le_of_lt hcl) hcz)
  rw [hnames] at KL1
  have KL2 := Lib.hid (fun W (g : Bl w W) => pList_any room u l W (hf.bl g) (by have := hR.2.1; omega) hz)
  have KT := Lib.hid (fun W v1 v2 (h1 : Sw W v1 (l.map Fl.n)) (h2 : Sw W v2 (l.map Fl.n)) => rStrings_any v1 v2 _ _ W h1 h2)
  rw [ssEq_iff.2 rfl] at KT
  obtain ⟨Q, hQ⟩ : ∃ Q, l.map Fl.n = Q := ⟨_, rfl⟩
  rw [hQ] at KL1 KL2 KT
  have KX := Lib.hid (fun W v (g : Bl w W) (hv : Fw W v (cr (syR l s) ms)) => pCrash_any room v vm (cr (syR l s) ms) ms W hv (hr.bl g) ha hcl hcz)
  rw [cr_twice] at KX
  have KE := Lib.hid (fun W v1 v2 (h1 : Fw W v1 (cr (syR l s) ms)) (h2 : Fw W v2 (cr (syR l s) ms)) => pSame_any room room v1 v2 _ _ W h1 h2)
  rw [dkEq_one] at KE
  obtain ⟨N, hN⟩ : ∃ N, l.length = N := ⟨_, rfl⟩
  obtain ⟨A, c, rfl, -⟩ := fw_open hf hN
  have BD0 := Lib.hid (Bq.new w 24 [.int .i64 room, .slice A N c])
  clear hf hz hrt hs ha hr hN hl he hR hS hsl hcl hsz hcz hsafe hnames hQ
  go_enter Try.func4, Try.ntmps4
  go_wp2_with (first
    | (go_at_call 9; (with_reducible refine (KS.out _).mono ?_); rintro e w1 ⟨rfl, hb⟩; have G1 := Lib.hid (((Bl.refl w).alloc (.cells #[.int .i64 room, .slice A N c] 24)).trans hb); have BD1 := Lib.hid (BD0.out.bl hb); have cD0_1 := BD1.out.cell 0 rfl; have cD1_1 := BD1.out.cell 1 rfl; clear hb)
    | (go_at_call 10; (with_reducible refine (KR.out _ G1.out).mono ?_); rintro e w2 ⟨rfl, hb⟩; have G2 := Lib.hid (G1.out.trans hb); have BD2 := Lib.hid (BD1.out.bl hb); have cD0_2 := BD2.out.cell 0 rfl; have cD1_2 := BD2.out.cell 1 rfl; clear hb)
    | (go_at_call 15; (with_reducible refine (KY.out _ G2.out).mono ?_); rintro e w3 ⟨v3, rfl, hv, hb⟩; obtain ⟨A3, c3, rfl⟩ := fw_shape hv; have G3 := Lib.hid (G2.out.trans hb); have BD3 := Lib.hid (BD2.out.bl hb); have RK3 := Lib.hid (hv); have G3' := Lib.hid (G3.out.alloc (.cells #[.int .i64 room, .slice A3 (syR l s).length c3] 24)); have BD3' := Lib.hid (BD3.out.alloc (.cells #[.int .i64 room, .slice A3 (syR l s).length c3] 24)); have RK3' := Lib.hid (RK3.out.bl ((Bl.refl w3).alloc (.cells #[.int .i64 room, .slice A3 (syR l s).length c3] 24))); have BK3' := Lib.hid (Bq.new w3 24 [.int .i64 room, .slice A3 (syR l s).length c3]); have cD0_3 := BD3'.out.cell 0 rfl; have cD1_3 := BD3'.out.cell 1 rfl; have cK0_3 := BK3'.out.cell 0 rfl; have cK1_3 := BK3'.out.cell 1 rfl; clear hb)
    | (go_at_call 13; (with_reducible refine (KC.out _ _ G3'.out RK3'.out).mono ?_); rintro e w4 ⟨v4, rfl, hv, hb⟩; obtain ⟨A4, c4, rfl⟩ := fw_shape hv; have G4 := Lib.hid (G3'.out.trans hb); have BD4 := Lib.hid (BD3'.out.bl hb); have BK4 := Lib.hid (BK3'.out.bl hb); have RK4 := Lib.hid (RK3'.out.bl hb); have RC4 := Lib.hid (hv); have G4' := Lib.hid (G4.out.alloc (.cells #[.int .i64 room, .slice A4 (cr (syR l s) ms).length c4] 24)); have BD4' := Lib.hid (BD4.out.alloc (.cells #[.int .i64 room, .slice A4 (cr (syR l s) ms).length c4] 24)); have BK4' := Lib.hid (BK4.out.alloc (.cells #[.int .i64 room, .slice A4 (cr (syR l s) ms).length c4] 24)); have RK4' := Lib.hid (RK4.out.bl ((Bl.refl w4).alloc (.cells #[.int .i64 room, .slice A4 (cr (syR l s) ms).length c4] 24))); have RC4' := Lib.hid (RC4.out.bl ((Bl.refl w4).alloc (.cells #[.int .i64 room, .slice A4 (cr (syR l s) ms).length c4] 24))); have BC4' := Lib.hid (Bq.new w4 24 [.int .i64 room, .slice A4 (cr (syR l s) ms).length c4]); have cD0_4 := BD4'.out.cell 0 rfl; have cD1_4 := BD4'.out.cell 1 rfl; have cK0_4 := BK4'.out.cell 0 rfl; have cK1_4 := BK4'.out.cell 1 rfl; have cC0_4 := BC4'.out.cell 0 rfl; have cC1_4 := BC4'.out.cell 1 rfl; clear hb)
    | (go_at_call 16; (with_reducible refine (KD1.out _ G4'.out).mono ?_); rintro e w5 ⟨rfl, hb⟩; have G5 := Lib.hid (G4'.out.trans hb); have BD5 := Lib.hid (BD4'.out.bl hb); have BK5 := Lib.hid (BK4'.out.bl hb); have BC5 := Lib.hid (BC4'.out.bl hb); have RK5 := Lib.hid (RK4'.out.bl hb); have RC5 := Lib.hid (RC4'.out.bl hb); have cD0_5 := BD5.out.cell 0 rfl; have cD1_5 := BD5.out.cell 1 rfl; have cK0_5 := BK5.out.cell 0 rfl; have cK1_5 := BK5.out.cell 1 rfl; have cC0_5 := BC5.out.cell 0 rfl; have cC1_5 := BC5.out.cell 1 rfl; clear hb)
    | (go_at_call 16; (with_reducible refine (KD2.out _ _ RC5.out).mono ?_); rintro e w6 ⟨rfl, hb⟩; have G6 := Lib.hid (G5.out.trans hb); have BD6 := Lib.hid (BD5.out.bl hb); have BK6 := Lib.hid (BK5.out.bl hb); have BC6 := Lib.hid (BC5.out.bl hb); have RK6 := Lib.hid (RK5.out.bl hb); have RC6 := Lib.hid (RC5.out.bl hb); have cD0_6 := BD6.out.cell 0 rfl; have cD1_6 := BD6.out.cell 1 rfl; have cK0_6 := BK6.out.cell 0 rfl; have cK1_6 := BK6.out.cell 1 rfl; have cC0_6 := BC6.out.cell 0 rfl; have cC1_6 := BC6.out.cell 1 rfl; clear hb))
  have HQ0 : Hid ((fun W => W.cell? ⟨w.heap.size, 0, none⟩ = some (.int .i64 room) ∧ W.cell? ⟨w.heap.size, 1, none⟩ = some (.slice A N c) ∧ W.cell? ⟨w4.heap.size, 0, none⟩ = some (.int .i64 room) ∧ W.cell? ⟨w4.heap.size, 1, none⟩ = some (.slice A4 (cr (syR l s) ms).length c4) ∧ w.heap.size < W.heap.size ∧ w4.heap.size < W.heap.size ∧ Bl w6 W) w6) := ⟨cD0_6, cD1_6, cC0_6, cC1_6, BD6.out.lt, BC6.out.lt, Bl.refl w6⟩
  have G7 := Lib.hid (G6.out.drew)
  have BD7 := Lib.hid (BD6.out.drew)
  have BK7 := Lib.hid (BK6.out.drew)
  have BC7 := Lib.hid (BC6.out.drew)
  have RK7 := Lib.hid (RK6.out.bl (Bl.refl _).drew)
  have RC7 := Lib.hid (RC6.out.bl (Bl.refl _).drew)
  go_region_held3 (fun W => W.cell? ⟨w.heap.size, 0, none⟩ = some (.int .i64 room) ∧ W.cell? ⟨w.heap.size, 1, none⟩ = some (.slice A N c) ∧ W.cell? ⟨w4.heap.size, 0, none⟩ = some (.int .i64 room) ∧ W.cell? ⟨w4.heap.size, 1, none⟩ = some (.slice A4 (cr (syR l s) ms).length c4) ∧ w.heap.size < W.heap.size ∧ w4.heap.size < W.heap.size ∧ Bl w6 W)
    (first | assumption | exact HQ0.out | exact keep4 HQ0.out (Bl.refl _).drew | exact keep4 ‹_› hb)
    (first
     | (go_at_call 18; (with_reducible refine (KL1.out _ _ RC7.out).mono ?_); rintro e w8 ⟨v8, rfl, hv, hb⟩; obtain ⟨A8, c8, rfl⟩ := sw_shape hv; have G8 := Lib.hid (G7.out.trans hb); have RK8 := Lib.hid (RK7.out.bl hb); have RC8 := Lib.hid (RC7.out.bl hb); have RS18 := Lib.hid (hv))
     | (go_at_call 18; (with_reducible refine (KL2.out _ G8.out).mono ?_); rintro e w9 ⟨v9, rfl, hv, hb⟩; obtain ⟨A9, c9, rfl⟩ := sw_shape hv; have G9 := Lib.hid (G8.out.trans hb); have RK9 := Lib.hid (RK8.out.bl hb); have RC9 := Lib.hid (RC8.out.bl hb); have RS19 := Lib.hid (RS18.out.bl hb); have RS29 := Lib.hid (hv))
     | (go_at_call 17; (with_reducible refine (KT.out _ _ _ RS19.out RS29.out).mono ?_); rintro e w10 ⟨rfl, hb⟩; have G10 := Lib.hid (G9.out.trans hb); have RK10 := Lib.hid (RK9.out.bl hb); have RC10 := Lib.hid (RC9.out.bl hb); have RS110 := Lib.hid (RS19.out.bl hb); have RS210 := Lib.hid (RS29.out.bl hb))
     | (go_at_call 13; (with_reducible refine (KX.out _ _ G10.out RC10.out).mono ?_); rintro e w11 ⟨v11, rfl, hv, hb⟩; obtain ⟨A11, c11, rfl⟩ := fw_shape hv; have G11 := Lib.hid (G10.out.trans hb); have RK11 := Lib.hid (RK10.out.bl hb); have RC11 := Lib.hid (RC10.out.bl hb); have RS111 := Lib.hid (RS110.out.bl hb); have RS211 := Lib.hid (RS210.out.bl hb); have RX11 := Lib.hid (hv))
     | (go_at_call 19; (with_reducible refine (KE.out _ _ _ RX11.out RC11.out).mono ?_); rintro e w12 ⟨rfl, hb⟩; have G12 := Lib.hid (G11.out.trans hb); have RK12 := Lib.hid (RK11.out.bl hb); have RC12 := Lib.hid (RC11.out.bl hb); have RS112 := Lib.hid (RS111.out.bl hb); have RS212 := Lib.hid (RS211.out.bl hb); have RX12 := Lib.hid (RX11.out.bl hb)))
  all_goals (try go_wp2)
  all_goals go_ret
  all_goals exact ⟨rfl, G12.out⟩
theorem diskSafe_walk (room : Int) (u : Value) (l : List Fl) (hb : -9223372036854775808 ≤ room ∧ room ≤ 9223372036854775807) (hz : Szs l) (s : ByteArray) (hs : s.size ≤ 140737488355328) (vm : Value) (ms : List Nat) (ha : All 18446744073709551616 ms) (w : World) (hf : Fw w u l) (hr : Rw .u64 w vm ms) :
    Calls Try.prog 4 #[.agg #[.int .i64 room, u], .string s, vm] w fun e w' => e = .returned (.bool true) ∧ Bl w w' := by
  cases hrt : rtB room l with
  | false => exact safe_no room u l hz s hs vm ms ha w hf hr hrt
  | true =>
    have he : fE l s = 0 ∨ fE l s = 9 := by
      unfold fE
      split
      · exact .inl rfl
      · exact .inr rfl
    rcases he with he | he
    · exact safe_yes room u l hz s hs vm ms ha w hf hr hrt he
    · exact safe_none room u l hz s hs vm ms ha w hf hr hrt he
end Go.Proofs.Ytgbeflocojmhhaa
