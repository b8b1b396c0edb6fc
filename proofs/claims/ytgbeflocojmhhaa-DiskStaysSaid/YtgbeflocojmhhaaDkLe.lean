/-
  The walk of DiskStays (printed by gen/dkle.py).
-/
import Derived.Test.YtgbeflocojmhhaaDkV
import Derived.Test.YtgbeflocojmhhaaDkS
import Derived.Test.YtgbeflocojmhhaaDkN
import Derived.Deep.RegionHeld3
namespace Go.Proofs.Ytgbeflocojmhhaa
open Go.RowKit
set_option linter.unusedVariables false
set_option linter.unusedSimpArgs false

theorem bq_2nd (w : World) (o : Obj) (t : TypeId) (cs : List Value) : Bq ((w.alloc o).alloc (.cells cs.toArray t)) (w.heap.size + 1) t cs := by
  have h := Bq.new (w.alloc o) t cs
  have e : (w.alloc o).heap.size = w.heap.size + 1 := by show (w.heap.push o).size = _; simp
  rwa [e] at h
theorem keep2 {w0 W w : World} {b : Nat} {v0 v1 : Value} (h : W.cell? ⟨b, 0, none⟩ = some v0 ∧ W.cell? ⟨b, 1, none⟩ = some v1 ∧ b < W.heap.size ∧ Bl w0 W) (g : Bl W w) :
    w.cell? ⟨b, 0, none⟩ = some v0 ∧ w.cell? ⟨b, 1, none⟩ = some v1 ∧ b < w.heap.size ∧ Bl w0 w := by
  obtain ⟨h0, h1, hb, hg⟩ := h
  exact ⟨(g.cell (p := ⟨b, 0, none⟩) hb).trans h0, (g.cell (p := ⟨b, 1, none⟩) hb).trans h1, Nat.lt_of_lt_of_le hb g.size, hg.trans g⟩
set_option maxRecDepth 100000 in
set_option maxHeartbeats 8000000 in
theorem stays_no (room : Int) (u : Value) (l : List Fl) (s to data : ByteArray) (vm : Value) (ms : List Nat) (other : ByteArray) (hz : Szs l) (hs : s.size ≤ 140737488355328) (hto : to.size ≤ 140737488355328) (hda : data.size ≤ 140737488355328) (ha : All 18446744073709551616 ms) (w : World) (hf : Fw w u l) (hr : Rw .u64 w vm ms) (hrt : rtB room l = false) :
    Calls Try.prog 5 #[.agg #[.int .i64 room, u, .string s, .string to, .string data, vm, .string other]] w fun e w' => e = .returned (.bool true) ∧ Bl w w' := by
  have KS := Lib.hid (fun W => shown15 W)
  have KR := Lib.hid (fun W (g : Bl w W) => rRight_any room u l W (hf.bl g) hz)
  rw [hrt] at KR
  obtain ⟨N, hN⟩ : ∃ N, l.length = N := ⟨_, rfl⟩
  obtain ⟨A, c, rfl, -⟩ := fw_open hf hN
  have BD0 := Lib.hid (bq_2nd w (.cells #[.int .i64 room, .slice A N c, .string s, .string to, .string data, vm, .string other] 42) 24 [.int .i64 room, .slice A N c])
  clear hf hz hrt hs hto hda ha hr hN
  go_enter Try.func5, Try.ntmps5
  go_wp2_with (first
    | (go_at_call 9; (with_reducible refine (KS.out _).mono ?_); rintro e w1 ⟨rfl, hb⟩; have G1 := Lib.hid ((((Bl.refl w).alloc (.cells #[.int .i64 room, .slice A N c, .string s, .string to, .string data, vm, .string other] 42)).alloc (.cells #[.int .i64 room, .slice A N c] 24)).trans hb); have BD1 := Lib.hid (BD0.out.bl hb); have cD0_1 := BD1.out.cell 0 rfl; have cD1_1 := BD1.out.cell 1 rfl; clear hb)
    | (go_at_call 10; (with_reducible refine (KR.out _ G1.out).mono ?_); rintro e w2 ⟨rfl, hb⟩; have G2 := Lib.hid (G1.out.trans hb); have BD2 := Lib.hid (BD1.out.bl hb); have cD0_2 := BD2.out.cell 0 rfl; have cD1_2 := BD2.out.cell 1 rfl; clear hb))
  go_ret
  exact ⟨rfl, G2.out⟩
set_option maxRecDepth 100000 in
set_option maxHeartbeats 8000000 in
theorem stays_ok_s (room : Int) (u : Value) (l : List Fl) (s to data : ByteArray) (vm : Value) (ms : List Nat) (other : ByteArray) (hz : Szs l) (hs : s.size ≤ 140737488355328) (hto : to.size ≤ 140737488355328) (hda : data.size ≤ 140737488355328) (ha : All 18446744073709551616 ms) (w : World) (hf : Fw w u l) (hr : Rw .u64 w vm ms) (hrt : rtB room l = true) (x : Int) (hx : wrE room l s data = x) (hx0 : x = 0) (ho : other = s) :
    Calls Try.prog 5 #[.agg #[.int .i64 room, u, .string s, .string to, .string data, vm, .string other]] w fun e w' => e = .returned (.bool true) ∧ Bl w w' := by
  have KS := Lib.hid (fun W => shown15 W)
  have KR := Lib.hid (fun W (g : Bl w W) => rRight_any room u l W (hf.bl g) hz)
  rw [hrt] at KR
  have hR := rtB_iff.1 hrt
  have hl : l.length < 1000 := by have := hR.2.1; omega
  have hl2 : l.length < 1000000 := by omega
  have hS := hR.2.2.2
  have KW := Lib.hid (fun W (g : Bl w W) => pWrite_any room u l s data hs hda W (hf.bl g) hl hz)
  rw [hx] at KW
  have KN := Lib.hid (fun W (g : Bl w W) => pRename_any room u l s to hto W (hf.bl g) hl2)
  have KX := Lib.hid (fun W (g : Bl w W) => pDelete_any room u l s W (hf.bl g) hl2)
  have KC := Lib.hid (fun W (g : Bl w W) => pCrash_any room u vm l ms W (hf.bl g) (hr.bl g) ha hl hz)
  have KRW := Lib.hid (fun W v (hv : Fw W v (wrR room l s data)) => rRight_any room v _ W hv (szs_wr hz room hs hda))
  rw [rtB_iff.2 (rt_wr hR s data)] at KRW
  have KRR := Lib.hid (fun W v (hv : Fw W v (rnR l s to)) => rRight_any room v _ W hv (szs_rn hz hto))
  rw [rtB_iff.2 (rt_rn hR s to)] at KRR
  have KRX := Lib.hid (fun W v (hv : Fw W v (tkL l s)) => rRight_any room v _ W hv (szs_tk hz s))
  rw [rtB_iff.2 (rt_tk hR s)] at KRX
  have KRC := Lib.hid (fun W v (hv : Fw W v (cr l ms)) => rRight_any room v _ W hv (szs_cr hz ms))
  rw [rtB_iff.2 (rt_cr hR ms)] at KRC
  have KD1 := Lib.hid (fun W (g : Bl w W) => pRead_any room u l other W (hf.bl g))
  have KD2 := Lib.hid (fun W v (hv : Fw W v (wrR room l s data)) => pRead_any room v _ other W hv)
  have KD3 := Lib.hid (fun W v (hv : Fw W v (rnR l s to)) => pRead_any room v _ other W hv)
  have KD4 := Lib.hid (fun W v (hv : Fw W v (tkL l s)) => pRead_any room v _ other W hv)
  have q0 : (other.toList == s.toList) = true := sEq_iff.2 ho
  have hw := wr_used (hx.trans hx0)
  have hU : ((used (wrR room l s data) : Nat) : Int) ≤ room := by rw [hw.1]; exact hw.2.2
  obtain ⟨U, hUe⟩ : ∃ U, used (wrR room l s data) = U := ⟨_, rfl⟩
  have KU := Lib.hid (fun W v (hv : Fw W v (wrR room l s data)) => pUsed_any room v _ W hv (by have := (rt_wr hR s data).2.1; omega) (szs_wr hz room hs hda))
  rw [hUe] at KU hU
  have q2 : decide (room < (U : Int)) = false := decide_eq_false (by omega)
  subst hx0
  obtain ⟨N, hN⟩ : ∃ N, l.length = N := ⟨_, rfl⟩
  obtain ⟨A, c, rfl, -⟩ := fw_open hf hN
  have BD0 := Lib.hid (bq_2nd w (.cells #[.int .i64 room, .slice A N c, .string s, .string to, .string data, vm, .string other] 42) 24 [.int .i64 room, .slice A N c])
  clear hf hz hrt hs hto hda ha hr hN hR hl hl2 hS hx ho hw hU hUe
  go_enter Try.func5, Try.ntmps5
  go_wp2_with (first
    | (go_at_call 9; (with_reducible refine (KS.out _).mono ?_); rintro e w1 ⟨rfl, hb⟩; have G1 := Lib.hid ((((Bl.refl w).alloc (.cells #[.int .i64 room, .slice A N c, .string s, .string to, .string data, vm, .string other] 42)).alloc (.cells #[.int .i64 room, .slice A N c] 24)).trans hb); have BD1 := Lib.hid (BD0.out.bl hb); have cD0_1 := BD1.out.cell 0 rfl; have cD1_1 := BD1.out.cell 1 rfl; clear hb)
    | (go_at_call 10; (with_reducible refine (KR.out _ G1.out).mono ?_); rintro e w2 ⟨rfl, hb⟩; have G2 := Lib.hid (G1.out.trans hb); have BD2 := Lib.hid (BD1.out.bl hb); have cD0_2 := BD2.out.cell 0 rfl; have cD1_2 := BD2.out.cell 1 rfl; clear hb)
    | (go_at_call 20; (with_reducible refine (KW.out _ G2.out).mono ?_); rintro e w3 ⟨v3, rfl, hv, hb⟩; obtain ⟨A3, c3, rfl⟩ := fw_shape hv; have G3 := Lib.hid (G2.out.trans hb); have BD3 := Lib.hid (BD2.out.bl hb); have RW3 := Lib.hid (hv); have G3' := Lib.hid (G3.out.alloc (.cells #[.int .i64 room, .slice A3 (wrR room l s data).length c3] 24)); have BD3' := Lib.hid (BD3.out.alloc (.cells #[.int .i64 room, .slice A3 (wrR room l s data).length c3] 24)); have RW3' := Lib.hid (RW3.out.bl ((Bl.refl w3).alloc (.cells #[.int .i64 room, .slice A3 (wrR room l s data).length c3] 24))); have BW3' := Lib.hid (Bq.new w3 24 [.int .i64 room, .slice A3 (wrR room l s data).length c3]); have cD0_3 := BD3'.out.cell 0 rfl; have cD1_3 := BD3'.out.cell 1 rfl; have cW0_3 := BW3'.out.cell 0 rfl; have cW1_3 := BW3'.out.cell 1 rfl; clear hb)
    | (go_at_call 21; (with_reducible refine (KN.out _ G3'.out).mono ?_); rintro e w4 ⟨v4, rfl, hv, hb⟩; obtain ⟨A4, c4, rfl⟩ := fw_shape hv; have G4 := Lib.hid (G3'.out.trans hb); have BD4 := Lib.hid (BD3'.out.bl hb); have BW4 := Lib.hid (BW3'.out.bl hb); have RW4 := Lib.hid (RW3'.out.bl hb); have RR4 := Lib.hid (hv); have G4' := Lib.hid (G4.out.alloc (.cells #[.int .i64 room, .slice A4 (rnR l s to).length c4] 24)); have BD4' := Lib.hid (BD4.out.alloc (.cells #[.int .i64 room, .slice A4 (rnR l s to).length c4] 24)); have BW4' := Lib.hid (BW4.out.alloc (.cells #[.int .i64 room, .slice A4 (rnR l s to).length c4] 24)); have RW4' := Lib.hid (RW4.out.bl ((Bl.refl w4).alloc (.cells #[.int .i64 room, .slice A4 (rnR l s to).length c4] 24))); have RR4' := Lib.hid (RR4.out.bl ((Bl.refl w4).alloc (.cells #[.int .i64 room, .slice A4 (rnR l s to).length c4] 24))); have BR4' := Lib.hid (Bq.new w4 24 [.int .i64 room, .slice A4 (rnR l s to).length c4]); have cD0_4 := BD4'.out.cell 0 rfl; have cD1_4 := BD4'.out.cell 1 rfl; have cW0_4 := BW4'.out.cell 0 rfl; have cW1_4 := BW4'.out.cell 1 rfl; have cR0_4 := BR4'.out.cell 0 rfl; have cR1_4 := BR4'.out.cell 1 rfl; clear hb)
    | (go_at_call 22; (with_reducible refine (KX.out _ G4'.out).mono ?_); rintro e w5 ⟨v5, rfl, hv, hb⟩; obtain ⟨A5, c5, rfl⟩ := fw_shape hv; have G5 := Lib.hid (G4'.out.trans hb); have BD5 := Lib.hid (BD4'.out.bl hb); have BW5 := Lib.hid (BW4'.out.bl hb); have BR5 := Lib.hid (BR4'.out.bl hb); have RW5 := Lib.hid (RW4'.out.bl hb); have RR5 := Lib.hid (RR4'.out.bl hb); have RX5 := Lib.hid (hv); have G5' := Lib.hid (G5.out.alloc (.cells #[.int .i64 room, .slice A5 (tkL l s).length c5] 24)); have BD5' := Lib.hid (BD5.out.alloc (.cells #[.int .i64 room, .slice A5 (tkL l s).length c5] 24)); have BW5' := Lib.hid (BW5.out.alloc (.cells #[.int .i64 room, .slice A5 (tkL l s).length c5] 24)); have BR5' := Lib.hid (BR5.out.alloc (.cells #[.int .i64 room, .slice A5 (tkL l s).length c5] 24)); have RW5' := Lib.hid (RW5.out.bl ((Bl.refl w5).alloc (.cells #[.int .i64 room, .slice A5 (tkL l s).length c5] 24))); have RR5' := Lib.hid (RR5.out.bl ((Bl.refl w5).alloc (.cells #[.int .i64 room, .slice A5 (tkL l s).length c5] 24))); have RX5' := Lib.hid (RX5.out.bl ((Bl.refl w5).alloc (.cells #[.int .i64 room, .slice A5 (tkL l s).length c5] 24))); have BX5' := Lib.hid (Bq.new w5 24 [.int .i64 room, .slice A5 (tkL l s).length c5]); have cD0_5 := BD5'.out.cell 0 rfl; have cD1_5 := BD5'.out.cell 1 rfl; have cW0_5 := BW5'.out.cell 0 rfl; have cW1_5 := BW5'.out.cell 1 rfl; have cR0_5 := BR5'.out.cell 0 rfl; have cR1_5 := BR5'.out.cell 1 rfl; have cX0_5 := BX5'.out.cell 0 rfl; have cX1_5 := BX5'.out.cell 1 rfl; clear hb)
    | (go_at_call 10; (with_reducible refine (KRW.out _ _ RW5'.out).mono ?_); rintro e w6 ⟨rfl, hb⟩; have G6 := Lib.hid (G5'.out.trans hb); have BD6 := Lib.hid (BD5'.out.bl hb); have BW6 := Lib.hid (BW5'.out.bl hb); have BR6 := Lib.hid (BR5'.out.bl hb); have BX6 := Lib.hid (BX5'.out.bl hb); have RW6 := Lib.hid (RW5'.out.bl hb); have RR6 := Lib.hid (RR5'.out.bl hb); have RX6 := Lib.hid (RX5'.out.bl hb); have cD0_6 := BD6.out.cell 0 rfl; have cD1_6 := BD6.out.cell 1 rfl; have cW0_6 := BW6.out.cell 0 rfl; have cW1_6 := BW6.out.cell 1 rfl; have cR0_6 := BR6.out.cell 0 rfl; have cR1_6 := BR6.out.cell 1 rfl; have cX0_6 := BX6.out.cell 0 rfl; have cX1_6 := BX6.out.cell 1 rfl; clear hb)
    | (go_at_call 10; (with_reducible refine (KRR.out _ _ RR6.out).mono ?_); rintro e w7 ⟨rfl, hb⟩; have G7 := Lib.hid (G6.out.trans hb); have BD7 := Lib.hid (BD6.out.bl hb); have BW7 := Lib.hid (BW6.out.bl hb); have BR7 := Lib.hid (BR6.out.bl hb); have BX7 := Lib.hid (BX6.out.bl hb); have RW7 := Lib.hid (RW6.out.bl hb); have RR7 := Lib.hid (RR6.out.bl hb); have RX7 := Lib.hid (RX6.out.bl hb); have cD0_7 := BD7.out.cell 0 rfl; have cD1_7 := BD7.out.cell 1 rfl; have cW0_7 := BW7.out.cell 0 rfl; have cW1_7 := BW7.out.cell 1 rfl; have cR0_7 := BR7.out.cell 0 rfl; have cR1_7 := BR7.out.cell 1 rfl; have cX0_7 := BX7.out.cell 0 rfl; have cX1_7 := BX7.out.cell 1 rfl; clear hb)
    | (go_at_call 10; (with_reducible refine (KRX.out _ _ RX7.out).mono ?_); rintro e w8 ⟨rfl, hb⟩; have G8 := Lib.hid (G7.out.trans hb); have BD8 := Lib.hid (BD7.out.bl hb); have BW8 := Lib.hid (BW7.out.bl hb); have BR8 := Lib.hid (BR7.out.bl hb); have BX8 := Lib.hid (BX7.out.bl hb); have RW8 := Lib.hid (RW7.out.bl hb); have RR8 := Lib.hid (RR7.out.bl hb); have RX8 := Lib.hid (RX7.out.bl hb); have cD0_8 := BD8.out.cell 0 rfl; have cD1_8 := BD8.out.cell 1 rfl; have cW0_8 := BW8.out.cell 0 rfl; have cW1_8 := BW8.out.cell 1 rfl; have cR0_8 := BR8.out.cell 0 rfl; have cR1_8 := BR8.out.cell 1 rfl; have cX0_8 := BX8.out.cell 0 rfl; have cX1_8 := BX8.out.cell 1 rfl; clear hb)
    | (go_at_call 13; (with_reducible refine (KC.out _ G8.out).mono ?_); rintro e w9 ⟨v9, rfl, hv, hb⟩; have G9 := Lib.hid (G8.out.trans hb); have BD9 := Lib.hid (BD8.out.bl hb); have BW9 := Lib.hid (BW8.out.bl hb); have BR9 := Lib.hid (BR8.out.bl hb); have BX9 := Lib.hid (BX8.out.bl hb); have RW9 := Lib.hid (RW8.out.bl hb); have RR9 := Lib.hid (RR8.out.bl hb); have RX9 := Lib.hid (RX8.out.bl hb); have RC9 := Lib.hid (hv); have cD0_9 := BD9.out.cell 0 rfl; have cD1_9 := BD9.out.cell 1 rfl; have cW0_9 := BW9.out.cell 0 rfl; have cW1_9 := BW9.out.cell 1 rfl; have cR0_9 := BR9.out.cell 0 rfl; have cR1_9 := BR9.out.cell 1 rfl; have cX0_9 := BX9.out.cell 0 rfl; have cX1_9 := BX9.out.cell 1 rfl; clear hb)
    | (go_at_call 10; (with_reducible refine (KRC.out _ _ RC9.out).mono ?_); rintro e w10 ⟨rfl, hb⟩; have G10 := Lib.hid (G9.out.trans hb); have BD10 := Lib.hid (BD9.out.bl hb); have BW10 := Lib.hid (BW9.out.bl hb); have BR10 := Lib.hid (BR9.out.bl hb); have BX10 := Lib.hid (BX9.out.bl hb); have RW10 := Lib.hid (RW9.out.bl hb); have RR10 := Lib.hid (RR9.out.bl hb); have RX10 := Lib.hid (RX9.out.bl hb); have RC10 := Lib.hid (RC9.out.bl hb); have cD0_10 := BD10.out.cell 0 rfl; have cD1_10 := BD10.out.cell 1 rfl; have cW0_10 := BW10.out.cell 0 rfl; have cW1_10 := BW10.out.cell 1 rfl; have cR0_10 := BR10.out.cell 0 rfl; have cR1_10 := BR10.out.cell 1 rfl; have cX0_10 := BX10.out.cell 0 rfl; have cX1_10 := BX10.out.cell 1 rfl; clear hb))
  have HQ0 : Hid ((fun W => W.cell? ⟨w3.heap.size, 0, none⟩ = some (.int .i64 room) ∧ W.cell? ⟨w3.heap.size, 1, none⟩ = some (.slice A3 (wrR room l s data).length c3) ∧ w3.heap.size < W.heap.size ∧ Bl w10 W) w10) := ⟨cW0_10, cW1_10, BW10.out.lt, Bl.refl w10⟩
  have G11 := Lib.hid (G10.out.drew)
  have BD11 := Lib.hid (BD10.out.drew)
  have BW11 := Lib.hid (BW10.out.drew)
  have BR11 := Lib.hid (BR10.out.drew)
  have BX11 := Lib.hid (BX10.out.drew)
  have RW11 := Lib.hid (RW10.out.bl (Bl.refl _).drew)
  have RR11 := Lib.hid (RR10.out.bl (Bl.refl _).drew)
  have RX11 := Lib.hid (RX10.out.bl (Bl.refl _).drew)
  have RC11 := Lib.hid (RC10.out.bl (Bl.refl _).drew)
  go_region_held3 (fun W => W.cell? ⟨w3.heap.size, 0, none⟩ = some (.int .i64 room) ∧ W.cell? ⟨w3.heap.size, 1, none⟩ = some (.slice A3 (wrR room l s data).length c3) ∧ w3.heap.size < W.heap.size ∧ Bl w10 W)
    (first | assumption | exact HQ0.out | exact keep2 HQ0.out (Bl.refl _).drew | exact keep2 ‹_› hb)
    (first | (go_at_call 23; (with_reducible refine (KU.out _ _ RW11.out).mono ?_); rintro e w12 ⟨rfl, hb⟩; have G12 := Lib.hid (G11.out.trans hb); have BD12 := Lib.hid (BD11.out.bl hb); have BW12 := Lib.hid (BW11.out.bl hb); have BR12 := Lib.hid (BR11.out.bl hb); have BX12 := Lib.hid (BX11.out.bl hb); have RW12 := Lib.hid (RW11.out.bl hb); have RR12 := Lib.hid (RR11.out.bl hb); have RX12 := Lib.hid (RX11.out.bl hb); have RC12 := Lib.hid (RC11.out.bl hb); have cD0_12 := BD12.out.cell 0 rfl; have cD1_12 := BD12.out.cell 1 rfl; have cW0_12 := BW12.out.cell 0 rfl; have cW1_12 := BW12.out.cell 1 rfl; have cR0_12 := BR12.out.cell 0 rfl; have cR1_12 := BR12.out.cell 1 rfl; have cX0_12 := BX12.out.cell 0 rfl; have cX1_12 := BX12.out.cell 1 rfl))
  clear hb
  go_wp2_with (first
    | (go_at_call 16; (with_reducible refine (KD1.out _ G12.out).mono ?_); rintro e w13 ⟨rfl, hb⟩; have G13 := Lib.hid (G12.out.trans hb); have BD13 := Lib.hid (BD12.out.bl hb); have BW13 := Lib.hid (BW12.out.bl hb); have BR13 := Lib.hid (BR12.out.bl hb); have BX13 := Lib.hid (BX12.out.bl hb); have RW13 := Lib.hid (RW12.out.bl hb); have RR13 := Lib.hid (RR12.out.bl hb); have RX13 := Lib.hid (RX12.out.bl hb); have RC13 := Lib.hid (RC12.out.bl hb); have cD0_13 := BD13.out.cell 0 rfl; have cD1_13 := BD13.out.cell 1 rfl; have cW0_13 := BW13.out.cell 0 rfl; have cW1_13 := BW13.out.cell 1 rfl; have cR0_13 := BR13.out.cell 0 rfl; have cR1_13 := BR13.out.cell 1 rfl; have cX0_13 := BX13.out.cell 0 rfl; have cX1_13 := BX13.out.cell 1 rfl; clear hb)
    | (go_at_call 16; (with_reducible refine (KD2.out _ _ RW13.out).mono ?_); rintro e w14 ⟨rfl, hb⟩; have G14 := Lib.hid (G13.out.trans hb); have BD14 := Lib.hid (BD13.out.bl hb); have BW14 := Lib.hid (BW13.out.bl hb); have BR14 := Lib.hid (BR13.out.bl hb); have BX14 := Lib.hid (BX13.out.bl hb); have RW14 := Lib.hid (RW13.out.bl hb); have RR14 := Lib.hid (RR13.out.bl hb); have RX14 := Lib.hid (RX13.out.bl hb); have RC14 := Lib.hid (RC13.out.bl hb); have cD0_14 := BD14.out.cell 0 rfl; have cD1_14 := BD14.out.cell 1 rfl; have cW0_14 := BW14.out.cell 0 rfl; have cW1_14 := BW14.out.cell 1 rfl; have cR0_14 := BR14.out.cell 0 rfl; have cR1_14 := BR14.out.cell 1 rfl; have cX0_14 := BX14.out.cell 0 rfl; have cX1_14 := BX14.out.cell 1 rfl; clear hb)
    | (go_at_call 16; (with_reducible refine (KD3.out _ _ RR14.out).mono ?_); rintro e w15 ⟨rfl, hb⟩; have G15 := Lib.hid (G14.out.trans hb); have BD15 := Lib.hid (BD14.out.bl hb); have BW15 := Lib.hid (BW14.out.bl hb); have BR15 := Lib.hid (BR14.out.bl hb); have BX15 := Lib.hid (BX14.out.bl hb); have RW15 := Lib.hid (RW14.out.bl hb); have RR15 := Lib.hid (RR14.out.bl hb); have RX15 := Lib.hid (RX14.out.bl hb); have RC15 := Lib.hid (RC14.out.bl hb); have cD0_15 := BD15.out.cell 0 rfl; have cD1_15 := BD15.out.cell 1 rfl; have cW0_15 := BW15.out.cell 0 rfl; have cW1_15 := BW15.out.cell 1 rfl; have cR0_15 := BR15.out.cell 0 rfl; have cR1_15 := BR15.out.cell 1 rfl; have cX0_15 := BX15.out.cell 0 rfl; have cX1_15 := BX15.out.cell 1 rfl; clear hb)
    | (go_at_call 16; (with_reducible refine (KD4.out _ _ RX15.out).mono ?_); rintro e w16 ⟨rfl, hb⟩; have G16 := Lib.hid (G15.out.trans hb); have BD16 := Lib.hid (BD15.out.bl hb); have BW16 := Lib.hid (BW15.out.bl hb); have BR16 := Lib.hid (BR15.out.bl hb); have BX16 := Lib.hid (BX15.out.bl hb); have RW16 := Lib.hid (RW15.out.bl hb); have RR16 := Lib.hid (RR15.out.bl hb); have RX16 := Lib.hid (RX15.out.bl hb); have RC16 := Lib.hid (RC15.out.bl hb); have cD0_16 := BD16.out.cell 0 rfl; have cD1_16 := BD16.out.cell 1 rfl; have cW0_16 := BW16.out.cell 0 rfl; have cW1_16 := BW16.out.cell 1 rfl; have cR0_16 := BR16.out.cell 0 rfl; have cR1_16 := BR16.out.cell 1 rfl; have cX0_16 := BX16.out.cell 0 rfl; have cX1_16 := BX16.out.cell 1 rfl; clear hb))
  go_ret
  exact ⟨by simp, G16.out⟩
set_option maxRecDepth 100000 in
set_option maxHeartbeats 8000000 in
theorem stays_ok_to (room : Int) (u : Value) (l : List Fl) (s to data : ByteArray) (vm : Value) (ms : List Nat) (other : ByteArray) (hz : Szs l) (hs : s.size ≤ 140737488355328) (hto : to.size ≤ 140737488355328) (hda : data.size ≤ 140737488355328) (ha : All 18446744073709551616 ms) (w : World) (hf : Fw w u l) (hr : Rw .u64 w vm ms) (hrt : rtB room l = true) (x : Int) (hx : wrE room l s data = x) (hx0 : x = 0) (ho : other ≠ s) (ho2 : other = to) :
    Calls Try.prog 5 #[.agg #[.int .i64 room, u, .string s, .string to, .string data, vm, .string other]] w fun e w' => e = .returned (.bool true) ∧ Bl w w' := by
  have KS := Lib.hid (fun W => shown15 W)
  have KR := Lib.hid (fun W (g : Bl w W) => rRight_any room u l W (hf.bl g) hz)
  rw [hrt] at KR
  have hR := rtB_iff.1 hrt
  have hl : l.length < 1000 := by have := hR.2.1; omega
  have hl2 : l.length < 1000000 := by omega
  have hS := hR.2.2.2
  have KW := Lib.hid (fun W (g : Bl w W) => pWrite_any room u l s data hs hda W (hf.bl g) hl hz)
  rw [hx] at KW
  have KN := Lib.hid (fun W (g : Bl w W) => pRename_any room u l s to hto W (hf.bl g) hl2)
  have KX := Lib.hid (fun W (g : Bl w W) => pDelete_any room u l s W (hf.bl g) hl2)
  have KC := Lib.hid (fun W (g : Bl w W) => pCrash_any room u vm l ms W (hf.bl g) (hr.bl g) ha hl hz)
  have KRW := Lib.hid (fun W v (hv : Fw W v (wrR room l s data)) => rRight_any room v _ W hv (szs_wr hz room hs hda))
  rw [rtB_iff.2 (rt_wr hR s data)] at KRW
  have KRR := Lib.hid (fun W v (hv : Fw W v (rnR l s to)) => rRight_any room v _ W hv (szs_rn hz hto))
  rw [rtB_iff.2 (rt_rn hR s to)] at KRR
  have KRX := Lib.hid (fun W v (hv : Fw W v (tkL l s)) => rRight_any room v _ W hv (szs_tk hz s))
  rw [rtB_iff.2 (rt_tk hR s)] at KRX
  have KRC := Lib.hid (fun W v (hv : Fw W v (cr l ms)) => rRight_any room v _ W hv (szs_cr hz ms))
  rw [rtB_iff.2 (rt_cr hR ms)] at KRC
  have KD1 := Lib.hid (fun W (g : Bl w W) => pRead_any room u l other W (hf.bl g))
  have KD2 := Lib.hid (fun W v (hv : Fw W v (wrR room l s data)) => pRead_any room v _ other W hv)
  have KD3 := Lib.hid (fun W v (hv : Fw W v (rnR l s to)) => pRead_any room v _ other W hv)
  have KD4 := Lib.hid (fun W v (hv : Fw W v (tkL l s)) => pRead_any room v _ other W hv)
  have q0 : (other.toList == s.toList) = false := sEq_not.2 ho
  rw [(rd_wr_other hS room s data ho).1, (rd_wr_other hS room s data ho).2] at KD2
  rw [(rd_tk_other hS s ho).1, (rd_tk_other hS s ho).2] at KD4
  have q1 : (other.toList == to.toList) = true := sEq_iff.2 ho2
  have hw := wr_used (hx.trans hx0)
  have hU : ((used (wrR room l s data) : Nat) : Int) ≤ room := by rw [hw.1]; exact hw.2.2
  obtain ⟨U, hUe⟩ : ∃ U, used (wrR room l s data) = U := ⟨_, rfl⟩
  have KU := Lib.hid (fun W v (hv : Fw W v (wrR room l s data)) => pUsed_any room v _ W hv (by have := (rt_wr hR s data).2.1; omega) (szs_wr hz room hs hda))
  rw [hUe] at KU hU
  have q2 : decide (room < (U : Int)) = false := decide_eq_false (by omega)
  subst hx0
  obtain ⟨N, hN⟩ : ∃ N, l.length = N := ⟨_, rfl⟩
  obtain ⟨A, c, rfl, -⟩ := fw_open hf hN
  have BD0 := Lib.hid (bq_2nd w (.cells #[.int .i64 room, .slice A N c, .string s, .string to, .string data, vm, .string other] 42) 24 [.int .i64 room, .slice A N c])
  clear hf hz hrt hs hto hda ha hr hN hR hl hl2 hS hx ho ho2 hw hU hUe
  go_enter Try.func5, Try.ntmps5
  go_wp2_with (first
    | (go_at_call 9; (with_reducible refine (KS.out _).mono ?_); rintro e w1 ⟨rfl, hb⟩; have G1 := Lib.hid ((((Bl.refl w).alloc (.cells #[.int .i64 room, .slice A N c, .string s, .string to, .string data, vm, .string other] 42)).alloc (.cells #[.int .i64 room, .slice A N c] 24)).trans hb); have BD1 := Lib.hid (BD0.out.bl hb); have cD0_1 := BD1.out.cell 0 rfl; have cD1_1 := BD1.out.cell 1 rfl; clear hb)
    | (go_at_call 10; (with_reducible refine (KR.out _ G1.out).mono ?_); rintro e w2 ⟨rfl, hb⟩; have G2 := Lib.hid (G1.out.trans hb); have BD2 := Lib.hid (BD1.out.bl hb); have cD0_2 := BD2.out.cell 0 rfl; have cD1_2 := BD2.out.cell 1 rfl; clear hb)
    | (go_at_call 20; (with_reducible refine (KW.out _ G2.out).mono ?_); rintro e w3 ⟨v3, rfl, hv, hb⟩; obtain ⟨A3, c3, rfl⟩ := fw_shape hv; have G3 := Lib.hid (G2.out.trans hb); have BD3 := Lib.hid (BD2.out.bl hb); have RW3 := Lib.hid (hv); have G3' := Lib.hid (G3.out.alloc (.cells #[.int .i64 room, .slice A3 (wrR room l s data).length c3] 24)); have BD3' := Lib.hid (BD3.out.alloc (.cells #[.int .i64 room, .slice A3 (wrR room l s data).length c3] 24)); have RW3' := Lib.hid (RW3.out.bl ((Bl.refl w3).alloc (.cells #[.int .i64 room, .slice A3 (wrR room l s data).length c3] 24))); have BW3' := Lib.hid (Bq.new w3 24 [.int .i64 room, .slice A3 (wrR room l s data).length c3]); have cD0_3 := BD3'.out.cell 0 rfl; have cD1_3 := BD3'.out.cell 1 rfl; have cW0_3 := BW3'.out.cell 0 rfl; have cW1_3 := BW3'.out.cell 1 rfl; clear hb)
    | (go_at_call 21; (with_reducible refine (KN.out _ G3'.out).mono ?_); rintro e w4 ⟨v4, rfl, hv, hb⟩; obtain ⟨A4, c4, rfl⟩ := fw_shape hv; have G4 := Lib.hid (G3'.out.trans hb); have BD4 := Lib.hid (BD3'.out.bl hb); have BW4 := Lib.hid (BW3'.out.bl hb); have RW4 := Lib.hid (RW3'.out.bl hb); have RR4 := Lib.hid (hv); have G4' := Lib.hid (G4.out.alloc (.cells #[.int .i64 room, .slice A4 (rnR l s to).length c4] 24)); have BD4' := Lib.hid (BD4.out.alloc (.cells #[.int .i64 room, .slice A4 (rnR l s to).length c4] 24)); have BW4' := Lib.hid (BW4.out.alloc (.cells #[.int .i64 room, .slice A4 (rnR l s to).length c4] 24)); have RW4' := Lib.hid (RW4.out.bl ((Bl.refl w4).alloc (.cells #[.int .i64 room, .slice A4 (rnR l s to).length c4] 24))); have RR4' := Lib.hid (RR4.out.bl ((Bl.refl w4).alloc (.cells #[.int .i64 room, .slice A4 (rnR l s to).length c4] 24))); have BR4' := Lib.hid (Bq.new w4 24 [.int .i64 room, .slice A4 (rnR l s to).length c4]); have cD0_4 := BD4'.out.cell 0 rfl; have cD1_4 := BD4'.out.cell 1 rfl; have cW0_4 := BW4'.out.cell 0 rfl; have cW1_4 := BW4'.out.cell 1 rfl; have cR0_4 := BR4'.out.cell 0 rfl; have cR1_4 := BR4'.out.cell 1 rfl; clear hb)
    | (go_at_call 22; (with_reducible refine (KX.out _ G4'.out).mono ?_); rintro e w5 ⟨v5, rfl, hv, hb⟩; obtain ⟨A5, c5, rfl⟩ := fw_shape hv; have G5 := Lib.hid (G4'.out.trans hb); have BD5 := Lib.hid (BD4'.out.bl hb); have BW5 := Lib.hid (BW4'.out.bl hb); have BR5 := Lib.hid (BR4'.out.bl hb); have RW5 := Lib.hid (RW4'.out.bl hb); have RR5 := Lib.hid (RR4'.out.bl hb); have RX5 := Lib.hid (hv); have G5' := Lib.hid (G5.out.alloc (.cells #[.int .i64 room, .slice A5 (tkL l s).length c5] 24)); have BD5' := Lib.hid (BD5.out.alloc (.cells #[.int .i64 room, .slice A5 (tkL l s).length c5] 24)); have BW5' := Lib.hid (BW5.out.alloc (.cells #[.int .i64 room, .slice A5 (tkL l s).length c5] 24)); have BR5' := Lib.hid (BR5.out.alloc (.cells #[.int .i64 room, .slice A5 (tkL l s).length c5] 24)); have RW5' := Lib.hid (RW5.out.bl ((Bl.refl w5).alloc (.cells #[.int .i64 room, .slice A5 (tkL l s).length c5] 24))); have RR5' := Lib.hid (RR5.out.bl ((Bl.refl w5).alloc (.cells #[.int .i64 room, .slice A5 (tkL l s).length c5] 24))); have RX5' := Lib.hid (RX5.out.bl ((Bl.refl w5).alloc (.cells #[.int .i64 room, .slice A5 (tkL l s).length c5] 24))); have BX5' := Lib.hid (Bq.new w5 24 [.int .i64 room, .slice A5 (tkL l s).length c5]); have cD0_5 := BD5'.out.cell 0 rfl; have cD1_5 := BD5'.out.cell 1 rfl; have cW0_5 := BW5'.out.cell 0 rfl; have cW1_5 := BW5'.out.cell 1 rfl; have cR0_5 := BR5'.out.cell 0 rfl; have cR1_5 := BR5'.out.cell 1 rfl; have cX0_5 := BX5'.out.cell 0 rfl; have cX1_5 := BX5'.out.cell 1 rfl; clear hb)
    | (go_at_call 10; (with_reducible refine (KRW.out _ _ RW5'.out).mono ?_); rintro e w6 ⟨rfl, hb⟩; have G6 := Lib.hid (G5'.out.trans hb); have BD6 := Lib.hid (BD5'.out.bl hb); have BW6 := Lib.hid (BW5'.out.bl hb); have BR6 := Lib.hid (BR5'.out.bl hb); have BX6 := Lib.hid (BX5'.out.bl hb); have RW6 := Lib.hid (RW5'.out.bl hb); have RR6 := Lib.hid (RR5'.out.bl hb); have RX6 := Lib.hid (RX5'.out.bl hb); have cD0_6 := BD6.out.cell 0 rfl; have cD1_6 := BD6.out.cell 1 rfl; have cW0_6 := BW6.out.cell 0 rfl; have cW1_6 := BW6.out.cell 1 rfl; have cR0_6 := BR6.out.cell 0 rfl; have cR1_6 := BR6.out.cell 1 rfl; have cX0_6 := BX6.out.cell 0 rfl; have cX1_6 := BX6.out.cell 1 rfl; clear hb)
    | (go_at_call 10; (with_reducible refine (KRR.out _ _ RR6.out).mono ?_); rintro e w7 ⟨rfl, hb⟩; have G7 := Lib.hid (G6.out.trans hb); have BD7 := Lib.hid (BD6.out.bl hb); have BW7 := Lib.hid (BW6.out.bl hb); have BR7 := Lib.hid (BR6.out.bl hb); have BX7 := Lib.hid (BX6.out.bl hb); have RW7 := Lib.hid (RW6.out.bl hb); have RR7 := Lib.hid (RR6.out.bl hb); have RX7 := Lib.hid (RX6.out.bl hb); have cD0_7 := BD7.out.cell 0 rfl; have cD1_7 := BD7.out.cell 1 rfl; have cW0_7 := BW7.out.cell 0 rfl; have cW1_7 := BW7.out.cell 1 rfl; have cR0_7 := BR7.out.cell 0 rfl; have cR1_7 := BR7.out.cell 1 rfl; have cX0_7 := BX7.out.cell 0 rfl; have cX1_7 := BX7.out.cell 1 rfl; clear hb)
    | (go_at_call 10; (with_reducible refine (KRX.out _ _ RX7.out).mono ?_); rintro e w8 ⟨rfl, hb⟩; have G8 := Lib.hid (G7.out.trans hb); have BD8 := Lib.hid (BD7.out.bl hb); have BW8 := Lib.hid (BW7.out.bl hb); have BR8 := Lib.hid (BR7.out.bl hb); have BX8 := Lib.hid (BX7.out.bl hb); have RW8 := Lib.hid (RW7.out.bl hb); have RR8 := Lib.hid (RR7.out.bl hb); have RX8 := Lib.hid (RX7.out.bl hb); have cD0_8 := BD8.out.cell 0 rfl; have cD1_8 := BD8.out.cell 1 rfl; have cW0_8 := BW8.out.cell 0 rfl; have cW1_8 := BW8.out.cell 1 rfl; have cR0_8 := BR8.out.cell 0 rfl; have cR1_8 := BR8.out.cell 1 rfl; have cX0_8 := BX8.out.cell 0 rfl; have cX1_8 := BX8.out.cell 1 rfl; clear hb)
    | (go_at_call 13; (with_reducible refine (KC.out _ G8.out).mono ?_); rintro e w9 ⟨v9, rfl, hv, hb⟩; have G9 := Lib.hid (G8.out.trans hb); have BD9 := Lib.hid (BD8.out.bl hb); have BW9 := Lib.hid (BW8.out.bl hb); have BR9 := Lib.hid (BR8.out.bl hb); have BX9 := Lib.hid (BX8.out.bl hb); have RW9 := Lib.hid (RW8.out.bl hb); have RR9 := Lib.hid (RR8.out.bl hb); have RX9 := Lib.hid (RX8.out.bl hb); have RC9 := Lib.hid (hv); have cD0_9 := BD9.out.cell 0 rfl; have cD1_9 := BD9.out.cell 1 rfl; have cW0_9 := BW9.out.cell 0 rfl; have cW1_9 := BW9.out.cell 1 rfl; have cR0_9 := BR9.out.cell 0 rfl; have cR1_9 := BR9.out.cell 1 rfl; have cX0_9 := BX9.out.cell 0 rfl; have cX1_9 := BX9.out.cell 1 rfl; clear hb)
    | (go_at_call 10; (with_reducible refine (KRC.out _ _ RC9.out).mono ?_); rintro e w10 ⟨rfl, hb⟩; have G10 := Lib.hid (G9.out.trans hb); have BD10 := Lib.hid (BD9.out.bl hb); have BW10 := Lib.hid (BW9.out.bl hb); have BR10 := Lib.hid (BR9.out.bl hb); have BX10 := Lib.hid (BX9.out.bl hb); have RW10 := Lib.hid (RW9.out.bl hb); have RR10 := Lib.hid (RR9.out.bl hb); have RX10 := Lib.hid (RX9.out.bl hb); have RC10 := Lib.hid (RC9.out.bl hb); have cD0_10 := BD10.out.cell 0 rfl; have cD1_10 := BD10.out.cell 1 rfl; have cW0_10 := BW10.out.cell 0 rfl; have cW1_10 := BW10.out.cell 1 rfl; have cR0_10 := BR10.out.cell 0 rfl; have cR1_10 := BR10.out.cell 1 rfl; have cX0_10 := BX10.out.cell 0 rfl; have cX1_10 := BX10.out.cell 1 rfl; clear hb))
  have HQ0 : Hid ((fun W => W.cell? ⟨w3.heap.size, 0, none⟩ = some (.int .i64 room) ∧ W.cell? ⟨w3.heap.size, 1, none⟩ = some (.slice A3 (wrR room l s data).length c3) ∧ w3.heap.size < W.heap.size ∧ Bl w10 W) w10) := ⟨cW0_10, cW1_10, BW10.out.lt, Bl.refl w10⟩
  have G11 := Lib.hid (G10.out.drew)
  have BD11 := Lib.hid (BD10.out.drew)
  have BW11 := Lib.hid (BW10.out.drew)
  have BR11 := Lib.hid (BR10.out.drew)
  have BX11 := Lib.hid (BX10.out.drew)
  have RW11 := Lib.hid (RW10.out.bl (Bl.refl _).drew)
  have RR11 := Lib.hid (RR10.out.bl (Bl.refl _).drew)
  have RX11 := Lib.hid (RX10.out.bl (Bl.refl _).drew)
  have RC11 := Lib.hid (RC10.out.bl (Bl.refl _).drew)
  go_region_held3 (fun W => W.cell? ⟨w3.heap.size, 0, none⟩ = some (.int .i64 room) ∧ W.cell? ⟨w3.heap.size, 1, none⟩ = some (.slice A3 (wrR room l s data).length c3) ∧ w3.heap.size < W.heap.size ∧ Bl w10 W)
    (first | assumption | exact HQ0.out | exact keep2 HQ0.out (Bl.refl _).drew | exact keep2 ‹_› hb)
    (first | (go_at_call 23; (with_reducible refine (KU.out _ _ RW11.out).mono ?_); rintro e w12 ⟨rfl, hb⟩; have G12 := Lib.hid (G11.out.trans hb); have BD12 := Lib.hid (BD11.out.bl hb); have BW12 := Lib.hid (BW11.out.bl hb); have BR12 := Lib.hid (BR11.out.bl hb); have BX12 := Lib.hid (BX11.out.bl hb); have RW12 := Lib.hid (RW11.out.bl hb); have RR12 := Lib.hid (RR11.out.bl hb); have RX12 := Lib.hid (RX11.out.bl hb); have RC12 := Lib.hid (RC11.out.bl hb); have cD0_12 := BD12.out.cell 0 rfl; have cD1_12 := BD12.out.cell 1 rfl; have cW0_12 := BW12.out.cell 0 rfl; have cW1_12 := BW12.out.cell 1 rfl; have cR0_12 := BR12.out.cell 0 rfl; have cR1_12 := BR12.out.cell 1 rfl; have cX0_12 := BX12.out.cell 0 rfl; have cX1_12 := BX12.out.cell 1 rfl))
  clear hb
  go_wp2_with (first
    | (go_at_call 16; (with_reducible refine (KD1.out _ G12.out).mono ?_); rintro e w13 ⟨rfl, hb⟩; have G13 := Lib.hid (G12.out.trans hb); have BD13 := Lib.hid (BD12.out.bl hb); have BW13 := Lib.hid (BW12.out.bl hb); have BR13 := Lib.hid (BR12.out.bl hb); have BX13 := Lib.hid (BX12.out.bl hb); have RW13 := Lib.hid (RW12.out.bl hb); have RR13 := Lib.hid (RR12.out.bl hb); have RX13 := Lib.hid (RX12.out.bl hb); have RC13 := Lib.hid (RC12.out.bl hb); have cD0_13 := BD13.out.cell 0 rfl; have cD1_13 := BD13.out.cell 1 rfl; have cW0_13 := BW13.out.cell 0 rfl; have cW1_13 := BW13.out.cell 1 rfl; have cR0_13 := BR13.out.cell 0 rfl; have cR1_13 := BR13.out.cell 1 rfl; have cX0_13 := BX13.out.cell 0 rfl; have cX1_13 := BX13.out.cell 1 rfl; clear hb)
    | (go_at_call 16; (with_reducible refine (KD2.out _ _ RW13.out).mono ?_); rintro e w14 ⟨rfl, hb⟩; have G14 := Lib.hid (G13.out.trans hb); have BD14 := Lib.hid (BD13.out.bl hb); have BW14 := Lib.hid (BW13.out.bl hb); have BR14 := Lib.hid (BR13.out.bl hb); have BX14 := Lib.hid (BX13.out.bl hb); have RW14 := Lib.hid (RW13.out.bl hb); have RR14 := Lib.hid (RR13.out.bl hb); have RX14 := Lib.hid (RX13.out.bl hb); have RC14 := Lib.hid (RC13.out.bl hb); have cD0_14 := BD14.out.cell 0 rfl; have cD1_14 := BD14.out.cell 1 rfl; have cW0_14 := BW14.out.cell 0 rfl; have cW1_14 := BW14.out.cell 1 rfl; have cR0_14 := BR14.out.cell 0 rfl; have cR1_14 := BR14.out.cell 1 rfl; have cX0_14 := BX14.out.cell 0 rfl; have cX1_14 := BX14.out.cell 1 rfl; clear hb)
    | (go_at_call 16; (with_reducible refine (KD3.out _ _ RR14.out).mono ?_); rintro e w15 ⟨rfl, hb⟩; have G15 := Lib.hid (G14.out.trans hb); have BD15 := Lib.hid (BD14.out.bl hb); have BW15 := Lib.hid (BW14.out.bl hb); have BR15 := Lib.hid (BR14.out.bl hb); have BX15 := Lib.hid (BX14.out.bl hb); have RW15 := Lib.hid (RW14.out.bl hb); have RR15 := Lib.hid (RR14.out.bl hb); have RX15 := Lib.hid (RX14.out.bl hb); have RC15 := Lib.hid (RC14.out.bl hb); have cD0_15 := BD15.out.cell 0 rfl; have cD1_15 := BD15.out.cell 1 rfl; have cW0_15 := BW15.out.cell 0 rfl; have cW1_15 := BW15.out.cell 1 rfl; have cR0_15 := BR15.out.cell 0 rfl; have cR1_15 := BR15.out.cell 1 rfl; have cX0_15 := BX15.out.cell 0 rfl; have cX1_15 := BX15.out.cell 1 rfl; clear hb)
    | (go_at_call 16; (with_reducible refine (KD4.out _ _ RX15.out).mono ?_); rintro e w16 ⟨rfl, hb⟩; have G16 := Lib.hid (G15.out.trans hb); have BD16 := Lib.hid (BD15.out.bl hb); have BW16 := Lib.hid (BW15.out.bl hb); have BR16 := Lib.hid (BR15.out.bl hb); have BX16 := Lib.hid (BX15.out.bl hb); have RW16 := Lib.hid (RW15.out.bl hb); have RR16 := Lib.hid (RR15.out.bl hb); have RX16 := Lib.hid (RX15.out.bl hb); have RC16 := Lib.hid (RC15.out.bl hb); have cD0_16 := BD16.out.cell 0 rfl; have cD1_16 := BD16.out.cell 1 rfl; have cW0_16 := BW16.out.cell 0 rfl; have cW1_16 := BW16.out.cell 1 rfl; have cR0_16 := BR16.out.cell 0 rfl; have cR1_16 := BR16.out.cell 1 rfl; have cX0_16 := BX16.out.cell 0 rfl; have cX1_16 := BX16.out.cell 1 rfl; clear hb))
  go_ret
  exact ⟨by simp, G16.out⟩
set_option maxRecDepth 100000 in
set_option maxHeartbeats 8000000 in
theorem stays_ok_other (room : Int) (u : Value) (l : List Fl) (s to data : ByteArray) (vm : Value) (ms : List Nat) (other : ByteArray) (hz : Szs l) (hs : s.size ≤ 140737488355328) (hto : to.size ≤ 140737488355328) (hda : data.size ≤ 140737488355328) (ha : All 18446744073709551616 ms) (w : World) (hf : Fw w u l) (hr : Rw .u64 w vm ms) (hrt : rtB room l = true) (x : Int) (hx : wrE room l s data = x) (hx0 : x = 0) (ho : other ≠ s) (ho2 : other ≠ to) :
    Calls Try.prog 5 #[.agg #[.int .i64 room, u, .string s, .string to, .string data, vm, .string other]] w fun e w' => e = .returned (.bool true) ∧ Bl w w' := by
  have KS := Lib.hid (fun W => shown15 W)
  have KR := Lib.hid (fun W (g : Bl w W) => rRight_any room u l W (hf.bl g) hz)
  rw [hrt] at KR
  have hR := rtB_iff.1 hrt
  have hl : l.length < 1000 := by have := hR.2.1; omega
  have hl2 : l.length < 1000000 := by omega
  have hS := hR.2.2.2
  have KW := Lib.hid (fun W (g : Bl w W) => pWrite_any room u l s data hs hda W (hf.bl g) hl hz)
  rw [hx] at KW
  have KN := Lib.hid (fun W (g : Bl w W) => pRename_any room u l s to hto W (hf.bl g) hl2)
  have KX := Lib.hid (fun W (g : Bl w W) => pDelete_any room u l s W (hf.bl g) hl2)
  have KC := Lib.hid (fun W (g : Bl w W) => pCrash_any room u vm l ms W (hf.bl g) (hr.bl g) ha hl hz)
  have KRW := Lib.hid (fun W v (hv : Fw W v (wrR room l s data)) => rRight_any room v _ W hv (szs_wr hz room hs hda))
  rw [rtB_iff.2 (rt_wr hR s data)] at KRW
  have KRR := Lib.hid (fun W v (hv : Fw W v (rnR l s to)) => rRight_any room v _ W hv (szs_rn hz hto))
  rw [rtB_iff.2 (rt_rn hR s to)] at KRR
  have KRX := Lib.hid (fun W v (hv : Fw W v (tkL l s)) => rRight_any room v _ W hv (szs_tk hz s))
  rw [rtB_iff.2 (rt_tk hR s)] at KRX
  have KRC := Lib.hid (fun W v (hv : Fw W v (cr l ms)) => rRight_any room v _ W hv (szs_cr hz ms))
  rw [rtB_iff.2 (rt_cr hR ms)] at KRC
  have KD1 := Lib.hid (fun W (g : Bl w W) => pRead_any room u l other W (hf.bl g))
  have KD2 := Lib.hid (fun W v (hv : Fw W v (wrR room l s data)) => pRead_any room v _ other W hv)
  have KD3 := Lib.hid (fun W v (hv : Fw W v (rnR l s to)) => pRead_any room v _ other W hv)
  have KD4 := Lib.hid (fun W v (hv : Fw W v (tkL l s)) => pRead_any room v _ other W hv)
  have q0 : (other.toList == s.toList) = false := sEq_not.2 ho
  rw [(rd_wr_other hS room s data ho).1, (rd_wr_other hS room s data ho).2] at KD2
  rw [(rd_tk_other hS s ho).1, (rd_tk_other hS s ho).2] at KD4
  have q1 : (other.toList == to.toList) = false := sEq_not.2 ho2
  rw [(rd_rn_other hS s to ho ho2).1, (rd_rn_other hS s to ho ho2).2] at KD3
  have hw := wr_used (hx.trans hx0)
  have hU : ((used (wrR room l s data) : Nat) : Int) ≤ room := by rw [hw.1]; exact hw.2.2
  obtain ⟨U, hUe⟩ : ∃ U, used (wrR room l s data) = U := ⟨_, rfl⟩
  have KU := Lib.hid (fun W v (hv : Fw W v (wrR room l s data)) => pUsed_any room v _ W hv (by have := (rt_wr hR s data).2.1; omega) (szs_wr hz room hs hda))
  rw [hUe] at KU hU
  have q2 : decide (room < (U : Int)) = false := decide_eq_false (by omega)
  subst hx0
  obtain ⟨N, hN⟩ : ∃ N, l.length = N := ⟨_, rfl⟩
  obtain ⟨A, c, rfl, -⟩ := fw_open hf hN
  have BD0 := Lib.hid (bq_2nd w (.cells #[.int .i64 room, .slice A N c, .string s, .string to, .string data, vm, .string other] 42) 24 [.int .i64 room, .slice A N c])
  clear hf hz hrt hs hto hda ha hr hN hR hl hl2 hS hx ho ho2 hw hU hUe
  go_enter Try.func5, Try.ntmps5
  go_wp2_with (first
    | (go_at_call 9; (with_reducible refine (KS.out _).mono ?_); rintro e w1 ⟨rfl, hb⟩; have G1 := Lib.hid ((((Bl.refl w).alloc (.cells #[.int .i64 room, .slice A N c, .string s, .string to, .string data, vm, .string other] 42)).alloc (.cells #[.int .i64 room, .slice A N c] 24)).trans hb); have BD1 := Lib.hid (BD0.out.bl hb); have cD0_1 := BD1.out.cell 0 rfl; have cD1_1 := BD1.out.cell 1 rfl; clear hb)
    | (go_at_call 10; (with_reducible refine (KR.out _ G1.out).mono ?_); rintro e w2 ⟨rfl, hb⟩; have G2 := Lib.hid (G1.out.trans hb); have BD2 := Lib.hid (BD1.out.bl hb); have cD0_2 := BD2.out.cell 0 rfl; have cD1_2 := BD2.out.cell 1 rfl; clear hb)
    | (go_at_call 20; (with_reducible refine (KW.out _ G2.out).mono ?_); rintro e w3 ⟨v3, rfl, hv, hb⟩; obtain ⟨A3, c3, rfl⟩ := fw_shape hv; have G3 := Lib.hid (G2.out.trans hb); have BD3 := Lib.hid (BD2.out.bl hb); have RW3 := Lib.hid (hv); have G3' := Lib.hid (G3.out.alloc (.cells #[.int .i64 room, .slice A3 (wrR room l s data).length c3] 24)); have BD3' := Lib.hid (BD3.out.alloc (.cells #[.int .i64 room, .slice A3 (wrR room l s data).length c3] 24)); have RW3' := Lib.hid (RW3.out.bl ((Bl.refl w3).alloc (.cells #[.int .i64 room, .slice A3 (wrR room l s data).length c3] 24))); have BW3' := Lib.hid (Bq.new w3 24 [.int .i64 room, .slice A3 (wrR room l s data).length c3]); have cD0_3 := BD3'.out.cell 0 rfl; have cD1_3 := BD3'.out.cell 1 rfl; have cW0_3 := BW3'.out.cell 0 rfl; have cW1_3 := BW3'.out.cell 1 rfl; clear hb)
    | (go_at_call 21; (with_reducible refine (KN.out _ G3'.out).mono ?_); rintro e w4 ⟨v4, rfl, hv, hb⟩; obtain ⟨A4, c4, rfl⟩ := fw_shape hv; have G4 := Lib.hid (G3'.out.trans hb); have BD4 := Lib.hid (BD3'.out.bl hb); have BW4 := Lib.hid (BW3'.out.bl hb); have RW4 := Lib.hid (RW3'.out.bl hb); have RR4 := Lib.hid (hv); have G4' := Lib.hid (G4.out.alloc (.cells #[.int .i64 room, .slice A4 (rnR l s to).length c4] 24)); have BD4' := Lib.hid (BD4.out.alloc (.cells #[.int .i64 room, .slice A4 (rnR l s to).length c4] 24)); have BW4' := Lib.hid (BW4.out.alloc (.cells #[.int .i64 room, .slice A4 (rnR l s to).length c4] 24)); have RW4' := Lib.hid (RW4.out.bl ((Bl.refl w4).alloc (.cells #[.int .i64 room, .slice A4 (rnR l s to).length c4] 24))); have RR4' := Lib.hid (RR4.out.bl ((Bl.refl w4).alloc (.cells #[.int .i64 room, .slice A4 (rnR l s to).length c4] 24))); have BR4' := Lib.hid (Bq.new w4 24 [.int .i64 room, .slice A4 (rnR l s to).length c4]); have cD0_4 := BD4'.out.cell 0 rfl; have cD1_4 := BD4'.out.cell 1 rfl; have cW0_4 := BW4'.out.cell 0 rfl; have cW1_4 := BW4'.out.cell 1 rfl; have cR0_4 := BR4'.out.cell 0 rfl; have cR1_4 := BR4'.out.cell 1 rfl; clear hb)
    | (go_at_call 22; (with_reducible refine (KX.out _ G4'.out).mono ?_); rintro e w5 ⟨v5, rfl, hv, hb⟩; obtain ⟨A5, c5, rfl⟩ := fw_shape hv; have G5 := Lib.hid (G4'.out.trans hb); have BD5 := Lib.hid (BD4'.out.bl hb); have BW5 := Lib.hid (BW4'.out.bl hb); have BR5 := Lib.hid (BR4'.out.bl hb); have RW5 := Lib.hid (RW4'.out.bl hb); have RR5 := Lib.hid (RR4'.out.bl hb); have RX5 := Lib.hid (hv); have G5' := Lib.hid (G5.out.alloc (.cells #[.int .i64 room, .slice A5 (tkL l s).length c5] 24)); have BD5' := Lib.hid (BD5.out.alloc (.cells #[.int .i64 room, .slice A5 (tkL l s).length c5] 24)); have BW5' := Lib.hid (BW5.out.alloc (.cells #[.int .i64 room, .slice A5 (tkL l s).length c5] 24)); have BR5' := Lib.hid (BR5.out.alloc (.cells #[.int .i64 room, .slice A5 (tkL l s).length c5] 24)); have RW5' := Lib.hid (RW5.out.bl ((Bl.refl w5).alloc (.cells #[.int .i64 room, .slice A5 (tkL l s).length c5] 24))); have RR5' := Lib.hid (RR5.out.bl ((Bl.refl w5).alloc (.cells #[.int .i64 room, .slice A5 (tkL l s).length c5] 24))); have RX5' := Lib.hid (RX5.out.bl ((Bl.refl w5).alloc (.cells #[.int .i64 room, .slice A5 (tkL l s).length c5] 24))); have BX5' := Lib.hid (Bq.new w5 24 [.int .i64 room, .slice A5 (tkL l s).length c5]); have cD0_5 := BD5'.out.cell 0 rfl; have cD1_5 := BD5'.out.cell 1 rfl; have cW0_5 := BW5'.out.cell 0 rfl; have cW1_5 := BW5'.out.cell 1 rfl; have cR0_5 := BR5'.out.cell 0 rfl; have cR1_5 := BR5'.out.cell 1 rfl; have cX0_5 := BX5'.out.cell 0 rfl; have cX1_5 := BX5'.out.cell 1 rfl; clear hb)
    | (go_at_call 10; (with_reducible refine (KRW.out _ _ RW5'.out).mono ?_); rintro e w6 ⟨rfl, hb⟩; have G6 := Lib.hid (G5'.out.trans hb); have BD6 := Lib.hid (BD5'.out.bl hb); have BW6 := Lib.hid (BW5'.out.bl hb); have BR6 := Lib.hid (BR5'.out.bl hb); have BX6 := Lib.hid (BX5'.out.bl hb); have RW6 := Lib.hid (RW5'.out.bl hb); have RR6 := Lib.hid (RR5'.out.bl hb); have RX6 := Lib.hid (RX5'.out.bl hb); have cD0_6 := BD6.out.cell 0 rfl; have cD1_6 := BD6.out.cell 1 rfl; have cW0_6 := BW6.out.cell 0 rfl; have cW1_6 := BW6.out.cell 1 rfl; have cR0_6 := BR6.out.cell 0 rfl; have cR1_6 := BR6.out.cell 1 rfl; have cX0_6 := BX6.out.cell 0 rfl; have cX1_6 := BX6.out.cell 1 rfl; clear hb)
    | (go_at_call 10; (with_reducible refine (KRR.out _ _ RR6.out).mono ?_); rintro e w7 ⟨rfl, hb⟩; have G7 := Lib.hid (G6.out.trans hb); have BD7 := Lib.hid (BD6.out.bl hb); have BW7 := Lib.hid (BW6.out.bl hb); have BR7 := Lib.hid (BR6.out.bl hb); have BX7 := Lib.hid (BX6.out.bl hb); have RW7 := Lib.hid (RW6.out.bl hb); have RR7 := Lib.hid (RR6.out.bl hb); have RX7 := Lib.hid (RX6.out.bl hb); have cD0_7 := BD7.out.cell 0 rfl; have cD1_7 := BD7.out.cell 1 rfl; have cW0_7 := BW7.out.cell 0 rfl; have cW1_7 := BW7.out.cell 1 rfl; have cR0_7 := BR7.out.cell 0 rfl; have cR1_7 := BR7.out.cell 1 rfl; have cX0_7 := BX7.out.cell 0 rfl; have cX1_7 := BX7.out.cell 1 rfl; clear hb)
    | (go_at_call 10; (with_reducible refine (KRX.out _ _ RX7.out).mono ?_); rintro e w8 ⟨rfl, hb⟩; have G8 := Lib.hid (G7.out.trans hb); have BD8 := Lib.hid (BD7.out.bl hb); have BW8 := Lib.hid (BW7.out.bl hb); have BR8 := Lib.hid (BR7.out.bl hb); have BX8 := Lib.hid (BX7.out.bl hb); have RW8 := Lib.hid (RW7.out.bl hb); have RR8 := Lib.hid (RR7.out.bl hb); have RX8 := Lib.hid (RX7.out.bl hb); have cD0_8 := BD8.out.cell 0 rfl; have cD1_8 := BD8.out.cell 1 rfl; have cW0_8 := BW8.out.cell 0 rfl; have cW1_8 := BW8.out.cell 1 rfl; have cR0_8 := BR8.out.cell 0 rfl; have cR1_8 := BR8.out.cell 1 rfl; have cX0_8 := BX8.out.cell 0 rfl; have cX1_8 := BX8.out.cell 1 rfl; clear hb)
    | (go_at_call 13; (with_reducible refine (KC.out _ G8.out).mono ?_); rintro e w9 ⟨v9, rfl, hv, hb⟩; have G9 := Lib.hid (G8.out.trans hb); have BD9 := Lib.hid (BD8.out.bl hb); have BW9 := Lib.hid (BW8.out.bl hb); have BR9 := Lib.hid (BR8.out.bl hb); have BX9 := Lib.hid (BX8.out.bl hb); have RW9 := Lib.hid (RW8.out.bl hb); have RR9 := Lib.hid (RR8.out.bl hb); have RX9 := Lib.hid (RX8.out.bl hb); have RC9 := Lib.hid (hv); have cD0_9 := BD9.out.cell 0 rfl; have cD1_9 := BD9.out.cell 1 rfl; have cW0_9 := BW9.out.cell 0 rfl; have cW1_9 := BW9.out.cell 1 rfl; have cR0_9 := BR9.out.cell 0 rfl; have cR1_9 := BR9.out.cell 1 rfl; have cX0_9 := BX9.out.cell 0 rfl; have cX1_9 := BX9.out.cell 1 rfl; clear hb)
    | (go_at_call 10; (with_reducible refine (KRC.out _ _ RC9.out).mono ?_); rintro e w10 ⟨rfl, hb⟩; have G10 := Lib.hid (G9.out.trans hb); have BD10 := Lib.hid (BD9.out.bl hb); have BW10 := Lib.hid (BW9.out.bl hb); have BR10 := Lib.hid (BR9.out.bl hb); have BX10 := Lib.hid (BX9.out.bl hb); have RW10 := Lib.hid (RW9.out.bl hb); have RR10 := Lib.hid (RR9.out.bl hb); have RX10 := Lib.hid (RX9.out.bl hb); have RC10 := Lib.hid (RC9.out.bl hb); have cD0_10 := BD10.out.cell 0 rfl; have cD1_10 := BD10.out.cell 1 rfl; have cW0_10 := BW10.out.cell 0 rfl; have cW1_10 := BW10.out.cell 1 rfl; have cR0_10 := BR10.out.cell 0 rfl; have cR1_10 := BR10.out.cell 1 rfl; have cX0_10 := BX10.out.cell 0 rfl; have cX1_10 := BX10.out.cell 1 rfl; clear hb))
  have HQ0 : Hid ((fun W => W.cell? ⟨w3.heap.size, 0, none⟩ = some (.int .i64 room) ∧ W.cell? ⟨w3.heap.size, 1, none⟩ = some (.slice A3 (wrR room l s data).length c3) ∧ w3.heap.size < W.heap.size ∧ Bl w10 W) w10) := ⟨cW0_10, cW1_10, BW10.out.lt, Bl.refl w10⟩
  have G11 := Lib.hid (G10.out.drew)
  have BD11 := Lib.hid (BD10.out.drew)
  have BW11 := Lib.hid (BW10.out.drew)
  have BR11 := Lib.hid (BR10.out.drew)
  have BX11 := Lib.hid (BX10.out.drew)
  have RW11 := Lib.hid (RW10.out.bl (Bl.refl _).drew)
  have RR11 := Lib.hid (RR10.out.bl (Bl.refl _).drew)
  have RX11 := Lib.hid (RX10.out.bl (Bl.refl _).drew)
  have RC11 := Lib.hid (RC10.out.bl (Bl.refl _).drew)
  go_region_held3 (fun W => W.cell? ⟨w3.heap.size, 0, none⟩ = some (.int .i64 room) ∧ W.cell? ⟨w3.heap.size, 1, none⟩ = some (.slice A3 (wrR room l s data).length c3) ∧ w3.heap.size < W.heap.size ∧ Bl w10 W)
    (first | assumption | exact HQ0.out | exact keep2 HQ0.out (Bl.refl _).drew | exact keep2 ‹_› hb)
    (first | (go_at_call 23; (with_reducible refine (KU.out _ _ RW11.out).mono ?_); rintro e w12 ⟨rfl, hb⟩; have G12 := Lib.hid (G11.out.trans hb); have BD12 := Lib.hid (BD11.out.bl hb); have BW12 := Lib.hid (BW11.out.bl hb); have BR12 := Lib.hid (BR11.out.bl hb); have BX12 := Lib.hid (BX11.out.bl hb); have RW12 := Lib.hid (RW11.out.bl hb); have RR12 := Lib.hid (RR11.out.bl hb); have RX12 := Lib.hid (RX11.out.bl hb); have RC12 := Lib.hid (RC11.out.bl hb); have cD0_12 := BD12.out.cell 0 rfl; have cD1_12 := BD12.out.cell 1 rfl; have cW0_12 := BW12.out.cell 0 rfl; have cW1_12 := BW12.out.cell 1 rfl; have cR0_12 := BR12.out.cell 0 rfl; have cR1_12 := BR12.out.cell 1 rfl; have cX0_12 := BX12.out.cell 0 rfl; have cX1_12 := BX12.out.cell 1 rfl))
  clear hb
  go_wp2_with (first
    | (go_at_call 16; (with_reducible refine (KD1.out _ G12.out).mono ?_); rintro e w13 ⟨rfl, hb⟩; have G13 := Lib.hid (G12.out.trans hb); have BD13 := Lib.hid (BD12.out.bl hb); have BW13 := Lib.hid (BW12.out.bl hb); have BR13 := Lib.hid (BR12.out.bl hb); have BX13 := Lib.hid (BX12.out.bl hb); have RW13 := Lib.hid (RW12.out.bl hb); have RR13 := Lib.hid (RR12.out.bl hb); have RX13 := Lib.hid (RX12.out.bl hb); have RC13 := Lib.hid (RC12.out.bl hb); have cD0_13 := BD13.out.cell 0 rfl; have cD1_13 := BD13.out.cell 1 rfl; have cW0_13 := BW13.out.cell 0 rfl; have cW1_13 := BW13.out.cell 1 rfl; have cR0_13 := BR13.out.cell 0 rfl; have cR1_13 := BR13.out.cell 1 rfl; have cX0_13 := BX13.out.cell 0 rfl; have cX1_13 := BX13.out.cell 1 rfl; clear hb)
    | (go_at_call 16; (with_reducible refine (KD2.out _ _ RW13.out).mono ?_); rintro e w14 ⟨rfl, hb⟩; have G14 := Lib.hid (G13.out.trans hb); have BD14 := Lib.hid (BD13.out.bl hb); have BW14 := Lib.hid (BW13.out.bl hb); have BR14 := Lib.hid (BR13.out.bl hb); have BX14 := Lib.hid (BX13.out.bl hb); have RW14 := Lib.hid (RW13.out.bl hb); have RR14 := Lib.hid (RR13.out.bl hb); have RX14 := Lib.hid (RX13.out.bl hb); have RC14 := Lib.hid (RC13.out.bl hb); have cD0_14 := BD14.out.cell 0 rfl; have cD1_14 := BD14.out.cell 1 rfl; have cW0_14 := BW14.out.cell 0 rfl; have cW1_14 := BW14.out.cell 1 rfl; have cR0_14 := BR14.out.cell 0 rfl; have cR1_14 := BR14.out.cell 1 rfl; have cX0_14 := BX14.out.cell 0 rfl; have cX1_14 := BX14.out.cell 1 rfl; clear hb)
    | (go_at_call 16; (with_reducible refine (KD3.out _ _ RR14.out).mono ?_); rintro e w15 ⟨rfl, hb⟩; have G15 := Lib.hid (G14.out.trans hb); have BD15 := Lib.hid (BD14.out.bl hb); have BW15 := Lib.hid (BW14.out.bl hb); have BR15 := Lib.hid (BR14.out.bl hb); have BX15 := Lib.hid (BX14.out.bl hb); have RW15 := Lib.hid (RW14.out.bl hb); have RR15 := Lib.hid (RR14.out.bl hb); have RX15 := Lib.hid (RX14.out.bl hb); have RC15 := Lib.hid (RC14.out.bl hb); have cD0_15 := BD15.out.cell 0 rfl; have cD1_15 := BD15.out.cell 1 rfl; have cW0_15 := BW15.out.cell 0 rfl; have cW1_15 := BW15.out.cell 1 rfl; have cR0_15 := BR15.out.cell 0 rfl; have cR1_15 := BR15.out.cell 1 rfl; have cX0_15 := BX15.out.cell 0 rfl; have cX1_15 := BX15.out.cell 1 rfl; clear hb)
    | (go_at_call 16; (with_reducible refine (KD4.out _ _ RX15.out).mono ?_); rintro e w16 ⟨rfl, hb⟩; have G16 := Lib.hid (G15.out.trans hb); have BD16 := Lib.hid (BD15.out.bl hb); have BW16 := Lib.hid (BW15.out.bl hb); have BR16 := Lib.hid (BR15.out.bl hb); have BX16 := Lib.hid (BX15.out.bl hb); have RW16 := Lib.hid (RW15.out.bl hb); have RR16 := Lib.hid (RR15.out.bl hb); have RX16 := Lib.hid (RX15.out.bl hb); have RC16 := Lib.hid (RC15.out.bl hb); have cD0_16 := BD16.out.cell 0 rfl; have cD1_16 := BD16.out.cell 1 rfl; have cW0_16 := BW16.out.cell 0 rfl; have cW1_16 := BW16.out.cell 1 rfl; have cR0_16 := BR16.out.cell 0 rfl; have cR1_16 := BR16.out.cell 1 rfl; have cX0_16 := BX16.out.cell 0 rfl; have cX1_16 := BX16.out.cell 1 rfl; clear hb))
  go_ret
  exact ⟨by simp, G16.out⟩
end Go.Proofs.Ytgbeflocojmhhaa
