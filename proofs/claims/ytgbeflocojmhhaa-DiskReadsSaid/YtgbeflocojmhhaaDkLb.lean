/-
  The walk of DiskReads (printed by gen/dklb.py).
-/
import Derived.Test.YtgbeflocojmhhaaDkV
import Derived.Test.YtgbeflocojmhhaaDkS
import Derived.Test.YtgbeflocojmhhaaDkN
namespace Go.Proofs.Ytgbeflocojmhhaa
open Go.RowKit
set_option linter.unusedVariables false
set_option linter.unusedSimpArgs false

theorem bq_two (w : World) (o : Obj) (t : TypeId) (cs : List Value) : Bq ((w.alloc o).alloc (.cells cs.toArray t)) (w.heap.size + 1) t cs := by
  have h := Bq.new (w.alloc o) t cs
  have e : (w.alloc o).heap.size = w.heap.size + 1 := by show (w.heap.push o).size = _; simp
  rwa [e] at h
set_option maxRecDepth 100000 in
set_option maxHeartbeats 8000000 in
theorem reads_no (room : Int) (u : Value) (l : List Fl) (s to data : ByteArray) (hz : Szs l) (hs : s.size ≤ 140737488355328) (hto : to.size ≤ 140737488355328) (hda : data.size ≤ 140737488355328) (w : World) (hf : Fw w u l) (hrt : rtB room l = false) :
    Calls Try.prog 7 #[.agg #[.int .i64 room, u, .string s, .string to, .string data]] w fun e w' => e = .returned (.bool true) ∧ Bl w w' := by
  have KS := Lib.hid (fun W => shown15 W)
  have KR := Lib.hid (fun W (g : Bl w W) => rRight_any room u l W (hf.bl g) hz)
  rw [hrt] at KR
  obtain ⟨N, hN⟩ : ∃ N, l.length = N := ⟨_, rfl⟩
  obtain ⟨A, c, rfl, -⟩ := fw_open hf hN
  have BI0 := Lib.hid ((Bq.new w 52 [.int .i64 room, .slice A N c, .string s, .string to, .string data]).alloc (.cells #[.int .i64 room, .slice A N c] 24))
  have BD0 := Lib.hid (bq_two w (.cells #[.int .i64 room, .slice A N c, .string s, .string to, .string data] 52) 24 [.int .i64 room, .slice A N c])
  clear hf hz hrt hs hto hda hN
  go_enter Try.func7, Try.ntmps7
  go_wp2_with (first
    | (go_at_call 9; (with_reducible refine (KS.out _).mono ?_); rintro e w1 ⟨rfl, hb⟩; have G1 := Lib.hid ((((Bl.refl w).alloc (.cells #[.int .i64 room, .slice A N c, .string s, .string to, .string data] 52)).alloc (.cells #[.int .i64 room, .slice A N c] 24)).trans hb); have BD1 := Lib.hid (BD0.out.bl hb); have cD0_1 := BD1.out.cell 0 rfl; have cD1_1 := BD1.out.cell 1 rfl; clear hb)
    | (go_at_call 10; (with_reducible refine (KR.out _ G1.out).mono ?_); rintro e w2 ⟨rfl, hb⟩; have G2 := Lib.hid (G1.out.trans hb); have BD2 := Lib.hid (BD1.out.bl hb); have cD0_2 := BD2.out.cell 0 rfl; have cD1_2 := BD2.out.cell 1 rfl; clear hb))
  go_ret
  exact ⟨by simp, G2.out⟩
set_option maxRecDepth 100000 in
set_option maxHeartbeats 8000000 in
theorem reads_full (room : Int) (u : Value) (l : List Fl) (s to data : ByteArray) (hz : Szs l) (hs : s.size ≤ 140737488355328) (hto : to.size ≤ 140737488355328) (hda : data.size ≤ 140737488355328) (w : World) (hf : Fw w u l) (hrt : rtB room l = true) (x : Int) (hx : wrE room l s data = x) (hx0 : x = 8 ∨ x = 1) :
    Calls Try.prog 7 #[.agg #[.int .i64 room, u, .string s, .string to, .string data]] w fun e w' => e = .returned (.bool true) ∧ Bl w w' := by
  have KS := Lib.hid (fun W => shown15 W)
  have KR := Lib.hid (fun W (g : Bl w W) => rRight_any room u l W (hf.bl g) hz)
  rw [hrt] at KR
  have hl : l.length < 1000 := by have := (rtB_iff.1 hrt).2.1; omega
  have KW := Lib.hid (fun W (g : Bl w W) => pWrite_any room u l s data hs hda W (hf.bl g) hl hz)
  rw [hx] at KW
  obtain ⟨N, hN⟩ : ∃ N, l.length = N := ⟨_, rfl⟩
  obtain ⟨A, c, rfl, -⟩ := fw_open hf hN
  have BI0 := Lib.hid ((Bq.new w 52 [.int .i64 room, .slice A N c, .string s, .string to, .string data]).alloc (.cells #[.int .i64 room, .slice A N c] 24))
  have BD0 := Lib.hid (bq_two w (.cells #[.int .i64 room, .slice A N c, .string s, .string to, .string data] 52) 24 [.int .i64 room, .slice A N c])
  clear hf hz hrt hs hto hda hN hl hx
  rcases hx0 with rfl | rfl
  all_goals go_enter Try.func7, Try.ntmps7
  all_goals go_wp2_with (first
    | (go_at_call 9; (with_reducible refine (KS.out _).mono ?_); rintro e w1 ⟨rfl, hb⟩; have G1 := Lib.hid ((((Bl.refl w).alloc (.cells #[.int .i64 room, .slice A N c, .string s, .string to, .string data] 52)).alloc (.cells #[.int .i64 room, .slice A N c] 24)).trans hb); have BD1 := Lib.hid (BD0.out.bl hb); have cD0_1 := BD1.out.cell 0 rfl; have cD1_1 := BD1.out.cell 1 rfl; clear hb)
    | (go_at_call 10; (with_reducible refine (KR.out _ G1.out).mono ?_); rintro e w2 ⟨rfl, hb⟩; have G2 := Lib.hid (G1.out.trans hb); have BD2 := Lib.hid (BD1.out.bl hb); have cD0_2 := BD2.out.cell 0 rfl; have cD1_2 := BD2.out.cell 1 rfl; clear hb)
    | (go_at_call 20; (with_reducible refine (KW.out _ G2.out).mono ?_); rintro e w3 ⟨v3, rfl, hv, hb⟩; obtain ⟨A3, c3, rfl⟩ := fw_shape hv; have G3 := Lib.hid (G2.out.trans hb); have BD3 := Lib.hid (BD2.out.bl hb); have RK3 := Lib.hid (hv); have G3' := Lib.hid (G3.out.alloc (.cells #[.int .i64 room, .slice A3 (wrR room l s data).length c3] 24)); have BD3' := Lib.hid (BD3.out.alloc (.cells #[.int .i64 room, .slice A3 (wrR room l s data).length c3] 24)); have RK3' := Lib.hid (RK3.out.bl ((Bl.refl w3).alloc (.cells #[.int .i64 room, .slice A3 (wrR room l s data).length c3] 24))); have BK3' := Lib.hid (Bq.new w3 24 [.int .i64 room, .slice A3 (wrR room l s data).length c3]); have cD0_3 := BD3'.out.cell 0 rfl; have cD1_3 := BD3'.out.cell 1 rfl; have cK0_3 := BK3'.out.cell 0 rfl; have cK1_3 := BK3'.out.cell 1 rfl; clear hb))
  all_goals go_ret
  all_goals exact ⟨by simp, G3'.out⟩
set_option maxRecDepth 100000 in
set_option maxHeartbeats 8000000 in
theorem reads_arg (room : Int) (u : Value) (l : List Fl) (s to data : ByteArray) (hz : Szs l) (hs : s.size ≤ 140737488355328) (hto : to.size ≤ 140737488355328) (hda : data.size ≤ 140737488355328) (w : World) (hf : Fw w u l) (hrt : rtB room l = true) (he : wrE room l s data = 0) (hm : ¬ mayN to = true) :
    Calls Try.prog 7 #[.agg #[.int .i64 room, u, .string s, .string to, .string data]] w fun e w' => e = .returned (.bool true) ∧ Bl w w' := by
  have KS := Lib.hid (fun W => shown15 W)
  have KR := Lib.hid (fun W (g : Bl w W) => rRight_any room u l W (hf.bl g) hz)
  rw [hrt] at KR
  have hR := rtB_iff.1 hrt
  have hl : l.length < 1000 := by have := hR.2.1; omega
  have hw := wr_used he
  have hRK := rt_wr hR s data
  rw [hw.1] at hRK
  have hk : (wrL l s data).length < 1000000 := by have := hRK.2.1; omega
  have hS := hR.2.2.2
  have KW := Lib.hid (fun W (g : Bl w W) => pWrite_any room u l s data hs hda W (hf.bl g) hl hz)
  rw [he, hw.1] at KW
  have KD1 := Lib.hid (fun W v (hv : Fw W v (wrL l s data)) => pRead_any room v (wrL l s data) s W hv)
  rw [(wr_read hS s data).1, (wr_read hS s data).2] at KD1
  have KN := Lib.hid (fun W v (hv : Fw W v (wrL l s data)) => pRename_any room v (wrL l s data) s to hto W hv hk)
  have KX := Lib.hid (fun W v (hv : Fw W v (wrL l s data)) => pDelete_any room v (wrL l s data) s W hv hk)
  rw [show fE (wrL l s data) s = 0 from if_pos (wr_found hS s data)] at KX
  have KD2 := Lib.hid (fun W v (hv : Fw W v (tkL (wrL l s data) s)) => pRead_any room v (tkL (wrL l s data) s) s W hv)
  rw [rd_tk hRK.2.2.2 s] at KD2
  have eN : rnR (wrL l s data) s to = wrL l s data := by unfold rnR; rw [if_pos (wr_found hS s data), if_neg hm]
  have xN : rnE (wrL l s data) s to = 1 := by unfold rnE; rw [if_pos (wr_found hS s data), if_neg hm]
  rw [eN, xN] at KN
  obtain ⟨N, hN⟩ : ∃ N, l.length = N := ⟨_, rfl⟩
  obtain ⟨A, c, rfl, -⟩ := fw_open hf hN
  have BI0 := Lib.hid ((Bq.new w 52 [.int .i64 room, .slice A N c, .string s, .string to, .string data]).alloc (.cells #[.int .i64 room, .slice A N c] 24))
  have BD0 := Lib.hid (bq_two w (.cells #[.int .i64 room, .slice A N c, .string s, .string to, .string data] 52) 24 [.int .i64 room, .slice A N c])
  clear hf hz hrt hs hto hda hN hl he hR hw hRK hk hS hm eN xN
  go_enter Try.func7, Try.ntmps7
  go_wp2_with (first
    | (go_at_call 9; (with_reducible refine (KS.out _).mono ?_); rintro e w1 ⟨rfl, hb⟩; have G1 := Lib.hid ((((Bl.refl w).alloc (.cells #[.int .i64 room, .slice A N c, .string s, .string to, .string data] 52)).alloc (.cells #[.int .i64 room, .slice A N c] 24)).trans hb); have BD1 := Lib.hid (BD0.out.bl hb); have cD0_1 := BD1.out.cell 0 rfl; have cD1_1 := BD1.out.cell 1 rfl; clear hb)
    | (go_at_call 10; (with_reducible refine (KR.out _ G1.out).mono ?_); rintro e w2 ⟨rfl, hb⟩; have G2 := Lib.hid (G1.out.trans hb); have BD2 := Lib.hid (BD1.out.bl hb); have cD0_2 := BD2.out.cell 0 rfl; have cD1_2 := BD2.out.cell 1 rfl; clear hb)
    | (go_at_call 20; (with_reducible refine (KW.out _ G2.out).mono ?_); rintro e w3 ⟨v3, rfl, hv, hb⟩; obtain ⟨A3, c3, rfl⟩ := fw_shape hv; have G3 := Lib.hid (G2.out.trans hb); have BD3 := Lib.hid (BD2.out.bl hb); have RK3 := Lib.hid (hv); have G3' := Lib.hid (G3.out.alloc (.cells #[.int .i64 room, .slice A3 (wrL l s data).length c3] 24)); have BD3' := Lib.hid (BD3.out.alloc (.cells #[.int .i64 room, .slice A3 (wrL l s data).length c3] 24)); have RK3' := Lib.hid (RK3.out.bl ((Bl.refl w3).alloc (.cells #[.int .i64 room, .slice A3 (wrL l s data).length c3] 24))); have BK3' := Lib.hid (Bq.new w3 24 [.int .i64 room, .slice A3 (wrL l s data).length c3]); have cD0_3 := BD3'.out.cell 0 rfl; have cD1_3 := BD3'.out.cell 1 rfl; have cK0_3 := BK3'.out.cell 0 rfl; have cK1_3 := BK3'.out.cell 1 rfl; clear hb)
    | (go_at_call 16; (with_reducible refine (KD1.out _ _ RK3'.out).mono ?_); rintro e w4 ⟨rfl, hb⟩; have G4 := Lib.hid (G3'.out.trans hb); have BD4 := Lib.hid (BD3'.out.bl hb); have BK4 := Lib.hid (BK3'.out.bl hb); have RK4 := Lib.hid (RK3'.out.bl hb); have cD0_4 := BD4.out.cell 0 rfl; have cD1_4 := BD4.out.cell 1 rfl; have cK0_4 := BK4.out.cell 0 rfl; have cK1_4 := BK4.out.cell 1 rfl; clear hb)
    | (go_at_call 21; (with_reducible refine (KN.out _ _ RK4.out).mono ?_); rintro e w5 ⟨v5, rfl, hv, hb⟩; obtain ⟨A5, c5, rfl⟩ := fw_shape hv; have G5 := Lib.hid (G4.out.trans hb); have BD5 := Lib.hid (BD4.out.bl hb); have BK5 := Lib.hid (BK4.out.bl hb); have RK5 := Lib.hid (RK4.out.bl hb); have RM5 := Lib.hid (hv); have G5' := Lib.hid (G5.out.alloc (.cells #[.int .i64 room, .slice A5 (wrL l s data).length c5] 24)); have BD5' := Lib.hid (BD5.out.alloc (.cells #[.int .i64 room, .slice A5 (wrL l s data).length c5] 24)); have BK5' := Lib.hid (BK5.out.alloc (.cells #[.int .i64 room, .slice A5 (wrL l s data).length c5] 24)); have RK5' := Lib.hid (RK5.out.bl ((Bl.refl w5).alloc (.cells #[.int .i64 room, .slice A5 (wrL l s data).length c5] 24))); have RM5' := Lib.hid (RM5.out.bl ((Bl.refl w5).alloc (.cells #[.int .i64 room, .slice A5 (wrL l s data).length c5] 24))); have BM5' := Lib.hid (Bq.new w5 24 [.int .i64 room, .slice A5 (wrL l s data).length c5]); have cD0_5 := BD5'.out.cell 0 rfl; have cD1_5 := BD5'.out.cell 1 rfl; have cK0_5 := BK5'.out.cell 0 rfl; have cK1_5 := BK5'.out.cell 1 rfl; have cM0_5 := BM5'.out.cell 0 rfl; have cM1_5 := BM5'.out.cell 1 rfl; clear hb)
    | (go_at_call 22; (with_reducible refine (KX.out _ _ RK5'.out).mono ?_); rintro e w6 ⟨v6, rfl, hv, hb⟩; obtain ⟨A6, c6, rfl⟩ := fw_shape hv; have G6 := Lib.hid (G5'.out.trans hb); have BD6 := Lib.hid (BD5'.out.bl hb); have BK6 := Lib.hid (BK5'.out.bl hb); have BM6 := Lib.hid (BM5'.out.bl hb); have RK6 := Lib.hid (RK5'.out.bl hb); have RM6 := Lib.hid (RM5'.out.bl hb); have RX6 := Lib.hid (hv); have G6' := Lib.hid (G6.out.alloc (.cells #[.int .i64 room, .slice A6 (tkL (wrL l s data) s).length c6] 24)); have BD6' := Lib.hid (BD6.out.alloc (.cells #[.int .i64 room, .slice A6 (tkL (wrL l s data) s).length c6] 24)); have BK6' := Lib.hid (BK6.out.alloc (.cells #[.int .i64 room, .slice A6 (tkL (wrL l s data) s).length c6] 24)); have BM6' := Lib.hid (BM6.out.alloc (.cells #[.int .i64 room, .slice A6 (tkL (wrL l s data) s).length c6] 24)); have RK6' := Lib.hid (RK6.out.bl ((Bl.refl w6).alloc (.cells #[.int .i64 room, .slice A6 (tkL (wrL l s data) s).length c6] 24))); have RM6' := Lib.hid (RM6.out.bl ((Bl.refl w6).alloc (.cells #[.int .i64 room, .slice A6 (tkL (wrL l s data) s).length c6] 24))); have RX6' := Lib.hid (RX6.out.bl ((Bl.refl w6).alloc (.cells #[.int .i64 room, .slice A6 (tkL (wrL l s data) s).length c6] 24))); have BX6' := Lib.hid (Bq.new w6 24 [.int .i64 room, .slice A6 (tkL (wrL l s data) s).length c6]); have cD0_6 := BD6'.out.cell 0 rfl; have cD1_6 := BD6'.out.cell 1 rfl; have cK0_6 := BK6'.out.cell 0 rfl; have cK1_6 := BK6'.out.cell 1 rfl; have cM0_6 := BM6'.out.cell 0 rfl; have cM1_6 := BM6'.out.cell 1 rfl; have cX0_6 := BX6'.out.cell 0 rfl; have cX1_6 := BX6'.out.cell 1 rfl; clear hb)
    | (go_at_call 16; (with_reducible refine (KD2.out _ _ RX6'.out).mono ?_); rintro e w7 ⟨rfl, hb⟩; have G7 := Lib.hid (G6'.out.trans hb); have BD7 := Lib.hid (BD6'.out.bl hb); have BK7 := Lib.hid (BK6'.out.bl hb); have BM7 := Lib.hid (BM6'.out.bl hb); have BX7 := Lib.hid (BX6'.out.bl hb); have RK7 := Lib.hid (RK6'.out.bl hb); have RM7 := Lib.hid (RM6'.out.bl hb); have RX7 := Lib.hid (RX6'.out.bl hb); have cD0_7 := BD7.out.cell 0 rfl; have cD1_7 := BD7.out.cell 1 rfl; have cK0_7 := BK7.out.cell 0 rfl; have cK1_7 := BK7.out.cell 1 rfl; have cM0_7 := BM7.out.cell 0 rfl; have cM1_7 := BM7.out.cell 1 rfl; have cX0_7 := BX7.out.cell 0 rfl; have cX1_7 := BX7.out.cell 1 rfl; clear hb))
  go_ret
  exact ⟨by simp, G7.out⟩
set_option maxRecDepth 100000 in
set_option maxHeartbeats 8000000 in
theorem reads_same (room : Int) (u : Value) (l : List Fl) (s to data : ByteArray) (hz : Szs l) (hs : s.size ≤ 140737488355328) (hto : to.size ≤ 140737488355328) (hda : data.size ≤ 140737488355328) (w : World) (hf : Fw w u l) (hrt : rtB room l = true) (he : wrE room l s data = 0) (hm : mayN to = true) (hst : s = to) :
    Calls Try.prog 7 #[.agg #[.int .i64 room, u, .string s, .string to, .string data]] w fun e w' => e = .returned (.bool true) ∧ Bl w w' := by
  have KS := Lib.hid (fun W => shown15 W)
  have KR := Lib.hid (fun W (g : Bl w W) => rRight_any room u l W (hf.bl g) hz)
  rw [hrt] at KR
  have hR := rtB_iff.1 hrt
  have hl : l.length < 1000 := by have := hR.2.1; omega
  have hw := wr_used he
  have hRK := rt_wr hR s data
  rw [hw.1] at hRK
  have hk : (wrL l s data).length < 1000000 := by have := hRK.2.1; omega
  have hS := hR.2.2.2
  have KW := Lib.hid (fun W (g : Bl w W) => pWrite_any room u l s data hs hda W (hf.bl g) hl hz)
  rw [he, hw.1] at KW
  have KD1 := Lib.hid (fun W v (hv : Fw W v (wrL l s data)) => pRead_any room v (wrL l s data) s W hv)
  rw [(wr_read hS s data).1, (wr_read hS s data).2] at KD1
  have KN := Lib.hid (fun W v (hv : Fw W v (wrL l s data)) => pRename_any room v (wrL l s data) s to hto W hv hk)
  have KX := Lib.hid (fun W v (hv : Fw W v (wrL l s data)) => pDelete_any room v (wrL l s data) s W hv hk)
  rw [show fE (wrL l s data) s = 0 from if_pos (wr_found hS s data)] at KX
  have KD2 := Lib.hid (fun W v (hv : Fw W v (tkL (wrL l s data) s)) => pRead_any room v (tkL (wrL l s data) s) s W hv)
  rw [rd_tk hRK.2.2.2 s] at KD2
  have eN : rnR (wrL l s data) s to = rnL (wrL l s data) s to := by unfold rnR; rw [if_pos (wr_found hS s data), if_pos hm]
  have xN : rnE (wrL l s data) s to = 0 := by unfold rnE; rw [if_pos (wr_found hS s data), if_pos hm]
  rw [eN, xN] at KN
  have hr := rn_read hRK.2.2.2 to (wr_found hS s data)
  rw [wr_tkF hS s data] at hr
  have KD3 := Lib.hid (fun W v (hv : Fw W v (rnL (wrL l s data) s to)) => pRead_any room v (rnL (wrL l s data) s to) to W hv)
  rw [hr.1, hr.2] at KD3
  have KD4 := Lib.hid (fun W v (hv : Fw W v (rnL (wrL l s data) s to)) => pRead_any room v (rnL (wrL l s data) s to) s W hv)
  have q0 : (s.toList == to.toList) = true := sEq_iff.2 hst
  obtain ⟨N, hN⟩ : ∃ N, l.length = N := ⟨_, rfl⟩
  obtain ⟨A, c, rfl, -⟩ := fw_open hf hN
  have BI0 := Lib.hid ((Bq.new w 52 [.int .i64 room, .slice A N c, .string s, .string to, .string data]).alloc (.cells #[.int .i64 room, .slice A N c] 24))
  have BD0 := Lib.hid (bq_two w (.cells #[.int .i64 room, .slice A N c, .string s, .string to, .string data] 52) 24 [.int .i64 room, .slice A N c])
  clear hf hz hrt hs hto hda hN hl he hR hw hRK hk hS hm eN xN hr hst
  go_enter Try.func7, Try.ntmps7
  go_wp2_with (first
    | (go_at_call 9; (with_reducible refine (KS.out _).mono ?_); rintro e w1 ⟨rfl, hb⟩; have G1 := Lib.hid ((((Bl.refl w).alloc (.cells #[.int .i64 room, .slice A N c, .string s, .string to, .string data] 52)).alloc (.cells #[.int .i64 room, .slice A N c] 24)).trans hb); have BD1 := Lib.hid (BD0.out.bl hb); have cD0_1 := BD1.out.cell 0 rfl; have cD1_1 := BD1.out.cell 1 rfl; clear hb)
    | (go_at_call 10; (with_reducible refine (KR.out _ G1.out).mono ?_); rintro e w2 ⟨rfl, hb⟩; have G2 := Lib.hid (G1.out.trans hb); have BD2 := Lib.hid (BD1.out.bl hb); have cD0_2 := BD2.out.cell 0 rfl; have cD1_2 := BD2.out.cell 1 rfl; clear hb)
    | (go_at_call 20; (with_reducible refine (KW.out _ G2.out).mono ?_); rintro e w3 ⟨v3, rfl, hv, hb⟩; obtain ⟨A3, c3, rfl⟩ := fw_shape hv; have G3 := Lib.hid (G2.out.trans hb); have BD3 := Lib.hid (BD2.out.bl hb); have RK3 := Lib.hid (hv); have G3' := Lib.hid (G3.out.alloc (.cells #[.int .i64 room, .slice A3 (wrL l s data).length c3] 24)); have BD3' := Lib.hid (BD3.out.alloc (.cells #[.int .i64 room, .slice A3 (wrL l s data).length c3] 24)); have RK3' := Lib.hid (RK3.out.bl ((Bl.refl w3).alloc (.cells #[.int .i64 room, .slice A3 (wrL l s data).length c3] 24))); have BK3' := Lib.hid (Bq.new w3 24 [.int .i64 room, .slice A3 (wrL l s data).length c3]); have cD0_3 := BD3'.out.cell 0 rfl; have cD1_3 := BD3'.out.cell 1 rfl; have cK0_3 := BK3'.out.cell 0 rfl; have cK1_3 := BK3'.out.cell 1 rfl; clear hb)
    | (go_at_call 16; (with_reducible refine (KD1.out _ _ RK3'.out).mono ?_); rintro e w4 ⟨rfl, hb⟩; have G4 := Lib.hid (G3'.out.trans hb); have BD4 := Lib.hid (BD3'.out.bl hb); have BK4 := Lib.hid (BK3'.out.bl hb); have RK4 := Lib.hid (RK3'.out.bl hb); have cD0_4 := BD4.out.cell 0 rfl; have cD1_4 := BD4.out.cell 1 rfl; have cK0_4 := BK4.out.cell 0 rfl; have cK1_4 := BK4.out.cell 1 rfl; clear hb)
    | (go_at_call 21; (with_reducible refine (KN.out _ _ RK4.out).mono ?_); rintro e w5 ⟨v5, rfl, hv, hb⟩; obtain ⟨A5, c5, rfl⟩ := fw_shape hv; have G5 := Lib.hid (G4.out.trans hb); have BD5 := Lib.hid (BD4.out.bl hb); have BK5 := Lib.hid (BK4.out.bl hb); have RK5 := Lib.hid (RK4.out.bl hb); have RM5 := Lib.hid (hv); have G5' := Lib.hid (G5.out.alloc (.cells #[.int .i64 room, .slice A5 (rnL (wrL l s data) s to).length c5] 24)); have BD5' := Lib.hid (BD5.out.alloc (.cells #[.int .i64 room, .slice A5 (rnL (wrL l s data) s to).length c5] 24)); have BK5' := Lib.hid (BK5.out.alloc (.cells #[.int .i64 room, .slice A5 (rnL (wrL l s data) s to).length c5] 24)); have RK5' := Lib.hid (RK5.out.bl ((Bl.refl w5).alloc (.cells #[.int .i64 room, .slice A5 (rnL (wrL l s data) s to).length c5] 24))); have RM5' := Lib.hid (RM5.out.bl ((Bl.refl w5).alloc (.cells #[.int .i64 room, .slice A5 (rnL (wrL l s data) s to).length c5] 24))); have BM5' := Lib.hid (Bq.new w5 24 [.int .i64 room, .slice A5 (rnL (wrL l s data) s to).length c5]); have cD0_5 := BD5'.out.cell 0 rfl; have cD1_5 := BD5'.out.cell 1 rfl; have cK0_5 := BK5'.out.cell 0 rfl; have cK1_5 := BK5'.out.cell 1 rfl; have cM0_5 := BM5'.out.cell 0 rfl; have cM1_5 := BM5'.out.cell 1 rfl; clear hb)
    | (go_at_call 22; (with_reducible refine (KX.out _ _ RK5'.out).mono ?_); rintro e w6 ⟨v6, rfl, hv, hb⟩; obtain ⟨A6, c6, rfl⟩ := fw_shape hv; have G6 := Lib.hid (G5'.out.trans hb); have BD6 := Lib.hid (BD5'.out.bl hb); have BK6 := Lib.hid (BK5'.out.bl hb); have BM6 := Lib.hid (BM5'.out.bl hb); have RK6 := Lib.hid (RK5'.out.bl hb); have RM6 := Lib.hid (RM5'.out.bl hb); have RX6 := Lib.hid (hv); have G6' := Lib.hid (G6.out.alloc (.cells #[.int .i64 room, .slice A6 (tkL (wrL l s data) s).length c6] 24)); have BD6' := Lib.hid (BD6.out.alloc (.cells #[.int .i64 room, .slice A6 (tkL (wrL l s data) s).length c6] 24)); have BK6' := Lib.hid (BK6.out.alloc (.cells #[.int .i64 room, .slice A6 (tkL (wrL l s data) s).length c6] 24)); have BM6' := Lib.hid (BM6.out.alloc (.cells #[.int .i64 room, .slice A6 (tkL (wrL l s data) s).length c6] 24)); have RK6' := Lib.hid (RK6.out.bl ((Bl.refl w6).alloc (.cells #[.int .i64 room, .slice A6 (tkL (wrL l s data) s).length c6] 24))); have RM6' := Lib.hid (RM6.out.bl ((Bl.refl w6).alloc (.cells #[.int .i64 room, .slice A6 (tkL (wrL l s data) s).length c6] 24))); have RX6' := Lib.hid (RX6.out.bl ((Bl.refl w6).alloc (.cells #[.int .i64 room, .slice A6 (tkL (wrL l s data) s).length c6] 24))); have BX6' := Lib.hid (Bq.new w6 24 [.int .i64 room, .slice A6 (tkL (wrL l s data) s).length c6]); have cD0_6 := BD6'.out.cell 0 rfl; have cD1_6 := BD6'.out.cell 1 rfl; have cK0_6 := BK6'.out.cell 0 rfl; have cK1_6 := BK6'.out.cell 1 rfl; have cM0_6 := BM6'.out.cell 0 rfl; have cM1_6 := BM6'.out.cell 1 rfl; have cX0_6 := BX6'.out.cell 0 rfl; have cX1_6 := BX6'.out.cell 1 rfl; clear hb)
    | (go_at_call 16; (with_reducible refine (KD2.out _ _ RX6'.out).mono ?_); rintro e w7 ⟨rfl, hb⟩; have G7 := Lib.hid (G6'.out.trans hb); have BD7 := Lib.hid (BD6'.out.bl hb); have BK7 := Lib.hid (BK6'.out.bl hb); have BM7 := Lib.hid (BM6'.out.bl hb); have BX7 := Lib.hid (BX6'.out.bl hb); have RK7 := Lib.hid (RK6'.out.bl hb); have RM7 := Lib.hid (RM6'.out.bl hb); have RX7 := Lib.hid (RX6'.out.bl hb); have cD0_7 := BD7.out.cell 0 rfl; have cD1_7 := BD7.out.cell 1 rfl; have cK0_7 := BK7.out.cell 0 rfl; have cK1_7 := BK7.out.cell 1 rfl; have cM0_7 := BM7.out.cell 0 rfl; have cM1_7 := BM7.out.cell 1 rfl; have cX0_7 := BX7.out.cell 0 rfl; have cX1_7 := BX7.out.cell 1 rfl; clear hb)
    | (go_at_call 16; (with_reducible refine (KD3.out _ _ RM7.out).mono ?_); rintro e w8 ⟨rfl, hb⟩; have G8 := Lib.hid (G7.out.trans hb); have BD8 := Lib.hid (BD7.out.bl hb); have BK8 := Lib.hid (BK7.out.bl hb); have BM8 := Lib.hid (BM7.out.bl hb); have BX8 := Lib.hid (BX7.out.bl hb); have RK8 := Lib.hid (RK7.out.bl hb); have RM8 := Lib.hid (RM7.out.bl hb); have RX8 := Lib.hid (RX7.out.bl hb); have cD0_8 := BD8.out.cell 0 rfl; have cD1_8 := BD8.out.cell 1 rfl; have cK0_8 := BK8.out.cell 0 rfl; have cK1_8 := BK8.out.cell 1 rfl; have cM0_8 := BM8.out.cell 0 rfl; have cM1_8 := BM8.out.cell 1 rfl; have cX0_8 := BX8.out.cell 0 rfl; have cX1_8 := BX8.out.cell 1 rfl; clear hb)
    | (go_at_call 16; (with_reducible refine (KD4.out _ _ RM8.out).mono ?_); rintro e w9 ⟨rfl, hb⟩; have G9 := Lib.hid (G8.out.trans hb); have BD9 := Lib.hid (BD8.out.bl hb); have BK9 := Lib.hid (BK8.out.bl hb); have BM9 := Lib.hid (BM8.out.bl hb); have BX9 := Lib.hid (BX8.out.bl hb); have RK9 := Lib.hid (RK8.out.bl hb); have RM9 := Lib.hid (RM8.out.bl hb); have RX9 := Lib.hid (RX8.out.bl hb); have cD0_9 := BD9.out.cell 0 rfl; have cD1_9 := BD9.out.cell 1 rfl; have cK0_9 := BK9.out.cell 0 rfl; have cK1_9 := BK9.out.cell 1 rfl; have cM0_9 := BM9.out.cell 0 rfl; have cM1_9 := BM9.out.cell 1 rfl; have cX0_9 := BX9.out.cell 0 rfl; have cX1_9 := BX9.out.cell 1 rfl; clear hb))
  go_ret
  exact ⟨by simp, G9.out⟩
set_option maxRecDepth 100000 in
set_option maxHeartbeats 8000000 in
theorem reads_other (room : Int) (u : Value) (l : List Fl) (s to data : ByteArray) (hz : Szs l) (hs : s.size ≤ 140737488355328) (hto : to.size ≤ 140737488355328) (hda : data.size ≤ 140737488355328) (w : World) (hf : Fw w u l) (hrt : rtB room l = true) (he : wrE room l s data = 0) (hm : mayN to = true) (hst : s ≠ to) :
    Calls Try.prog 7 #[.agg #[.int .i64 room, u, .string s, .string to, .string data]] w fun e w' => e = .returned (.bool true) ∧ Bl w w' := by
  have KS := Lib.hid (fun W => shown15 W)
  have KR := Lib.hid (fun W (g : Bl w W) => rRight_any room u l W (hf.bl g) hz)
  rw [hrt] at KR
  have hR := rtB_iff.1 hrt
  have hl : l.length < 1000 := by have := hR.2.1; omega
  have hw := wr_used he
  have hRK := rt_wr hR s data
  rw [hw.1] at hRK
  have hk : (wrL l s data).length < 1000000 := by have := hRK.2.1; omega
  have hS := hR.2.2.2
  have KW := Lib.hid (fun W (g : Bl w W) => pWrite_any room u l s data hs hda W (hf.bl g) hl hz)
  rw [he, hw.1] at KW
  have KD1 := Lib.hid (fun W v (hv : Fw W v (wrL l s data)) => pRead_any room v (wrL l s data) s W hv)
  rw [(wr_read hS s data).1, (wr_read hS s data).2] at KD1
  have KN := Lib.hid (fun W v (hv : Fw W v (wrL l s data)) => pRename_any room v (wrL l s data) s to hto W hv hk)
  have KX := Lib.hid (fun W v (hv : Fw W v (wrL l s data)) => pDelete_any room v (wrL l s data) s W hv hk)
  rw [show fE (wrL l s data) s = 0 from if_pos (wr_found hS s data)] at KX
  have KD2 := Lib.hid (fun W v (hv : Fw W v (tkL (wrL l s data) s)) => pRead_any room v (tkL (wrL l s data) s) s W hv)
  rw [rd_tk hRK.2.2.2 s] at KD2
  have eN : rnR (wrL l s data) s to = rnL (wrL l s data) s to := by unfold rnR; rw [if_pos (wr_found hS s data), if_pos hm]
  have xN : rnE (wrL l s data) s to = 0 := by unfold rnE; rw [if_pos (wr_found hS s data), if_pos hm]
  rw [eN, xN] at KN
  have hr := rn_read hRK.2.2.2 to (wr_found hS s data)
  rw [wr_tkF hS s data] at hr
  have KD3 := Lib.hid (fun W v (hv : Fw W v (rnL (wrL l s data) s to)) => pRead_any room v (rnL (wrL l s data) s to) to W hv)
  rw [hr.1, hr.2] at KD3
  have KD4 := Lib.hid (fun W v (hv : Fw W v (rnL (wrL l s data) s to)) => pRead_any room v (rnL (wrL l s data) s to) s W hv)
  rw [rn_gone hRK.2.2.2 hst] at KD4
  have q0 : (s.toList == to.toList) = false := sEq_not.2 hst
  obtain ⟨N, hN⟩ : ∃ N, l.length = N := ⟨_, rfl⟩
  obtain ⟨A, c, rfl, -⟩ := fw_open hf hN
  have BI0 := Lib.hid ((Bq.new w 52 [.int .i64 room, .slice A N c, .string s, .string to, .string data]).alloc (.cells #[.int .i64 room, .slice A N c] 24))
  have BD0 := Lib.hid (bq_two w (.cells #[.int .i64 room, .slice A N c, .string s, .string to, .string data] 52) 24 [.int .i64 room, .slice A N c])
  clear hf hz hrt hs hto hda hN hl he hR hw hRK hk hS hm eN xN hr hst
  go_enter Try.func7, Try.ntmps7
  go_wp2_with (first
    | (go_at_call 9; (with_reducible refine (KS.out _).mono ?_); rintro e w1 ⟨rfl, hb⟩; have G1 := Lib.hid ((((Bl.refl w).alloc (.cells #[.int .i64 room, .slice A N c, .string s, .string to, .string data] 52)).alloc (.cells #[.int .i64 room, .slice A N c] 24)).trans hb); have BD1 := Lib.hid (BD0.out.bl hb); have cD0_1 := BD1.out.cell 0 rfl; have cD1_1 := BD1.out.cell 1 rfl; clear hb)
    | (go_at_call 10; (with_reducible refine (KR.out _ G1.out).mono ?_); rintro e w2 ⟨rfl, hb⟩; have G2 := Lib.hid (G1.out.trans hb); have BD2 := Lib.hid (BD1.out.bl hb); have cD0_2 := BD2.out.cell 0 rfl; have cD1_2 := BD2.out.cell 1 rfl; clear hb)
    | (go_at_call 20; (with_reducible refine (KW.out _ G2.out).mono ?_); rintro e w3 ⟨v3, rfl, hv, hb⟩; obtain ⟨A3, c3, rfl⟩ := fw_shape hv; have G3 := Lib.hid (G2.out.trans hb); have BD3 := Lib.hid (BD2.out.bl hb); have RK3 := Lib.hid (hv); have G3' := Lib.hid (G3.out.alloc (.cells #[.int .i64 room, .slice A3 (wrL l s data).length c3] 24)); have BD3' := Lib.hid (BD3.out.alloc (.cells #[.int .i64 room, .slice A3 (wrL l s data).length c3] 24)); have RK3' := Lib.hid (RK3.out.bl ((Bl.refl w3).alloc (.cells #[.int .i64 room, .slice A3 (wrL l s data).length c3] 24))); have BK3' := Lib.hid (Bq.new w3 24 [.int .i64 room, .slice A3 (wrL l s data).length c3]); have cD0_3 := BD3'.out.cell 0 rfl; have cD1_3 := BD3'.out.cell 1 rfl; have cK0_3 := BK3'.out.cell 0 rfl; have cK1_3 := BK3'.out.cell 1 rfl; clear hb)
    | (go_at_call 16; (with_reducible refine (KD1.out _ _ RK3'.out).mono ?_); rintro e w4 ⟨rfl, hb⟩; have G4 := Lib.hid (G3'.out.trans hb); have BD4 := Lib.hid (BD3'.out.bl hb); have BK4 := Lib.hid (BK3'.out.bl hb); have RK4 := Lib.hid (RK3'.out.bl hb); have cD0_4 := BD4.out.cell 0 rfl; have cD1_4 := BD4.out.cell 1 rfl; have cK0_4 := BK4.out.cell 0 rfl; have cK1_4 := BK4.out.cell 1 rfl; clear hb)
    | (go_at_call 21; (with_reducible refine (KN.out _ _ RK4.out).mono ?_); rintro e w5 ⟨v5, rfl, hv, hb⟩; obtain ⟨A5, c5, rfl⟩ := fw_shape hv; have G5 := Lib.hid (G4.out.trans hb); have BD5 := Lib.hid (BD4.out.bl hb); have BK5 := Lib.hid (BK4.out.bl hb); have RK5 := Lib.hid (RK4.out.bl hb); have RM5 := Lib.hid (hv); have G5' := Lib.hid (G5.out.alloc (.cells #[.int .i64 room, .slice A5 (rnL (wrL l s data) s to).length c5] 24)); have BD5' := Lib.hid (BD5.out.alloc (.cells #[.int .i64 room, .slice A5 (rnL (wrL l s data) s to).length c5] 24)); have BK5' := Lib.hid (BK5.out.alloc (.cells #[.int .i64 room, .slice A5 (rnL (wrL l s data) s to).length c5] 24)); have RK5' := Lib.hid (RK5.out.bl ((Bl.refl w5).alloc (.cells #[.int .i64 room, .slice A5 (rnL (wrL l s data) s to).length c5] 24))); have RM5' := Lib.hid (RM5.out.bl ((Bl.refl w5).alloc (.cells #[.int .i64 room, .slice A5 (rnL (wrL l s data) s to).length c5] 24))); have BM5' := Lib.hid (Bq.new w5 24 [.int .i64 room, .slice A5 (rnL (wrL l s data) s to).length c5]); have cD0_5 := BD5'.out.cell 0 rfl; have cD1_5 := BD5'.out.cell 1 rfl; have cK0_5 := BK5'.out.cell 0 rfl; have cK1_5 := BK5'.out.cell 1 rfl; have cM0_5 := BM5'.out.cell 0 rfl; have cM1_5 := BM5'.out.cell 1 rfl; clear hb)
    | (go_at_call 22; (with_reducible refine (KX.out _ _ RK5'.out).mono ?_); rintro e w6 ⟨v6, rfl, hv, hb⟩; obtain ⟨A6, c6, rfl⟩ := fw_shape hv; have G6 := Lib.hid (G5'.out.trans hb); have BD6 := Lib.hid (BD5'.out.bl hb); have BK6 := Lib.hid (BK5'.out.bl hb); have BM6 := Lib.hid (BM5'.out.bl hb); have RK6 := Lib.hid (RK5'.out.bl hb); have RM6 := Lib.hid (RM5'.out.bl hb); have RX6 := Lib.hid (hv); have G6' := Lib.hid (G6.out.alloc (.cells #[.int .i64 room, .slice A6 (tkL (wrL l s data) s).length c6] 24)); have BD6' := Lib.hid (BD6.out.alloc (.cells #[.int .i64 room, .slice A6 (tkL (wrL l s data) s).length c6] 24)); have BK6' := Lib.hid (BK6.out.alloc (.cells #[.int .i64 room, .slice A6 (tkL (wrL l s data) s).length c6] 24)); have BM6' := Lib.hid (BM6.out.alloc (.cells #[.int .i64 room, .slice A6 (tkL (wrL l s data) s).length c6] 24)); have RK6' := Lib.hid (RK6.out.bl ((Bl.refl w6).alloc (.cells #[.int .i64 room, .slice A6 (tkL (wrL l s data) s).length c6] 24))); have RM6' := Lib.hid (RM6.out.bl ((Bl.refl w6).alloc (.cells #[.int .i64 room, .slice A6 (tkL (wrL l s data) s).length c6] 24))); have RX6' := Lib.hid (RX6.out.bl ((Bl.refl w6).alloc (.cells #[.int .i64 room, .slice A6 (tkL (wrL l s data) s).length c6] 24))); have BX6' := Lib.hid (Bq.new w6 24 [.int .i64 room, .slice A6 (tkL (wrL l s data) s).length c6]); have cD0_6 := BD6'.out.cell 0 rfl; have cD1_6 := BD6'.out.cell 1 rfl; have cK0_6 := BK6'.out.cell 0 rfl; have cK1_6 := BK6'.out.cell 1 rfl; have cM0_6 := BM6'.out.cell 0 rfl; have cM1_6 := BM6'.out.cell 1 rfl; have cX0_6 := BX6'.out.cell 0 rfl; have cX1_6 := BX6'.out.cell 1 rfl; clear hb)
    | (go_at_call 16; (with_reducible refine (KD2.out _ _ RX6'.out).mono ?_); rintro e w7 ⟨rfl, hb⟩; have G7 := Lib.hid (G6'.out.trans hb); have BD7 := Lib.hid (BD6'.out.bl hb); have BK7 := Lib.hid (BK6'.out.bl hb); have BM7 := Lib.hid (BM6'.out.bl hb); have BX7 := Lib.hid (BX6'.out.bl hb); have RK7 := Lib.hid (RK6'.out.bl hb); have RM7 := Lib.hid (RM6'.out.bl hb); have RX7 := Lib.hid (RX6'.out.bl hb); have cD0_7 := BD7.out.cell 0 rfl; have cD1_7 := BD7.out.cell 1 rfl; have cK0_7 := BK7.out.cell 0 rfl; have cK1_7 := BK7.out.cell 1 rfl; have cM0_7 := BM7.out.cell 0 rfl; have cM1_7 := BM7.out.cell 1 rfl; have cX0_7 := BX7.out.cell 0 rfl; have cX1_7 := BX7.out.cell 1 rfl; clear hb)
    | (go_at_call 16; (with_reducible refine (KD3.out _ _ RM7.out).mono ?_); rintro e w8 ⟨rfl, hb⟩; have G8 := Lib.hid (G7.out.trans hb); have BD8 := Lib.hid (BD7.out.bl hb); have BK8 := Lib.hid (BK7.out.bl hb); have BM8 := Lib.hid (BM7.out.bl hb); have BX8 := Lib.hid (BX7.out.bl hb); have RK8 := Lib.hid (RK7.out.bl hb); have RM8 := Lib.hid (RM7.out.bl hb); have RX8 := Lib.hid (RX7.out.bl hb); have cD0_8 := BD8.out.cell 0 rfl; have cD1_8 := BD8.out.cell 1 rfl; have cK0_8 := BK8.out.cell 0 rfl; have cK1_8 := BK8.out.cell 1 rfl; have cM0_8 := BM8.out.cell 0 rfl; have cM1_8 := BM8.out.cell 1 rfl; have cX0_8 := BX8.out.cell 0 rfl; have cX1_8 := BX8.out.cell 1 rfl; clear hb)
    | (go_at_call 16; (with_reducible refine (KD4.out _ _ RM8.out).mono ?_); rintro e w9 ⟨rfl, hb⟩; have G9 := Lib.hid (G8.out.trans hb); have BD9 := Lib.hid (BD8.out.bl hb); have BK9 := Lib.hid (BK8.out.bl hb); have BM9 := Lib.hid (BM8.out.bl hb); have BX9 := Lib.hid (BX8.out.bl hb); have RK9 := Lib.hid (RK8.out.bl hb); have RM9 := Lib.hid (RM8.out.bl hb); have RX9 := Lib.hid (RX8.out.bl hb); have cD0_9 := BD9.out.cell 0 rfl; have cD1_9 := BD9.out.cell 1 rfl; have cK0_9 := BK9.out.cell 0 rfl; have cK1_9 := BK9.out.cell 1 rfl; have cM0_9 := BM9.out.cell 0 rfl; have cM1_9 := BM9.out.cell 1 rfl; have cX0_9 := BX9.out.cell 0 rfl; have cX1_9 := BX9.out.cell 1 rfl; clear hb))
  go_ret
  exact ⟨by simp, G9.out⟩
theorem diskReads_walk (room : Int) (u : Value) (l : List Fl) (s to data : ByteArray) (hb : -9223372036854775808 ≤ room ∧ room ≤ 9223372036854775807) (hz : Szs l) (hs : s.size ≤ 140737488355328) (hto : to.size ≤ 140737488355328) (hda : data.size ≤ 140737488355328) (w : World) (hf : Fw w u l) :
    Calls Try.prog 7 #[.agg #[.int .i64 room, u, .string s, .string to, .string data]] w fun e w' => e = .returned (.bool true) ∧ Bl w w' := by
  cases hrt : rtB room l with
  | false => exact reads_no room u l s to data hz hs hto hda w hf hrt
  | true =>
    rcases wrE_cases room l s data with he | he | he
    · by_cases hm : mayN to = true
      · by_cases hst : s = to
        · exact reads_same room u l s to data hz hs hto hda w hf hrt he hm hst
        · exact reads_other room u l s to data hz hs hto hda w hf hrt he hm hst
      · exact reads_arg room u l s to data hz hs hto hda w hf hrt he hm
    · exact reads_full room u l s to data hz hs hto hda w hf hrt 8 he (.inl rfl)
    · exact reads_full room u l s to data hz hs hto hda w hf hrt 1 he (.inr rfl)
end Go.Proofs.Ytgbeflocojmhhaa
