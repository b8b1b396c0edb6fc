/-
  The walk of DiskEither (printed by gen/dkld.py).
-/
import Derived.Test.YtgbeflocojmhhaaDkV
import Derived.Test.YtgbeflocojmhhaaDkS
import Derived.Test.YtgbeflocojmhhaaDkN
import Derived.Test.YtgbeflocojmhhaaDkRa
namespace Go.Proofs.Ytgbeflocojmhhaa
open Go.RowKit
set_option linter.unusedVariables false
set_option linter.unusedSimpArgs false

theorem bq_snd (w : World) (o : Obj) (t : TypeId) (cs : List Value) : Bq ((w.alloc o).alloc (.cells cs.toArray t)) (w.heap.size + 1) t cs := by
  have h := Bq.new (w.alloc o) t cs
  have e : (w.alloc o).heap.size = w.heap.size + 1 := by show (w.heap.push o).size = _; simp
  rwa [e] at h
theorem u8_eq {a b : ByteArray} {k : Nat} (ha : k < a.size) (hb : k < b.size) (h : a.data.toList[k]?.getD 0 = b.data.toList[k]?.getD 0) : (a[k]'ha).toNat = (b[k]'hb).toNat := by rw [byte_at ha, byte_at hb, h]
set_option maxRecDepth 100000 in
set_option maxHeartbeats 8000000 in
theorem either_no (room : Int) (u : Value) (l : List Fl) (vm : Value) (ms : List Nat) (i k : Int) (hz : Szs l) (ha : All 18446744073709551616 ms) (w : World) (hf : Fw w u l) (hr : Rw .u64 w vm ms) (hrt : rtB room l = false) :
    Calls Try.prog 6 #[.agg #[.int .i64 room, u, vm, .int .i64 i, .int .i64 k]] w fun e w' => e = .returned (.bool true) ∧ Bl w w' := by
  have KS := Lib.hid (fun W => shown15 W)
  have KR := Lib.hid (fun W (g : Bl w W) => rRight_any room u l W (hf.bl g) hz)
  rw [hrt] at KR
  obtain ⟨N, hN⟩ : ∃ N, l.length = N := ⟨_, rfl⟩
  obtain ⟨A, c, rfl, _, _, _, hx⟩ := fw_open hf hN
  have BI0 := Lib.hid ((Bq.new w 47 [.int .i64 room, .slice A N c, vm, .int .i64 i, .int .i64 k]).alloc (.cells #[.int .i64 room, .slice A N c] 24))
  have BD0 := Lib.hid (bq_snd w (.cells #[.int .i64 room, .slice A N c, vm, .int .i64 i, .int .i64 k] 47) 24 [.int .i64 room, .slice A N c])
  clear hf hz hrt ha hr hN hx
  go_enter Try.func6, Try.ntmps6
  go_wp2_with (first
    | (go_at_call 9; (with_reducible refine (KS.out _).mono ?_); rintro e w1 ⟨rfl, hb⟩; have G1 := Lib.hid ((((Bl.refl w).alloc (.cells #[.int .i64 room, .slice A N c, vm, .int .i64 i, .int .i64 k] 47)).alloc (.cells #[.int .i64 room, .slice A N c] 24)).trans hb); have BD1 := Lib.hid (BD0.out.bl hb); have cD0_1 := BD1.out.cell 0 rfl; have cD1_1 := BD1.out.cell 1 rfl; clear hb)
    | (go_at_call 10; (with_reducible refine (KR.out _ G1.out).mono ?_); rintro e w2 ⟨rfl, hb⟩; have G2 := Lib.hid (G1.out.trans hb); have BD2 := Lib.hid (BD1.out.bl hb); have cD0_2 := BD2.out.cell 0 rfl; have cD1_2 := BD2.out.cell 1 rfl; clear hb))
  go_ret
  exact ⟨rfl, G2.out⟩
set_option maxRecDepth 100000 in
set_option maxHeartbeats 8000000 in
theorem either_out (room : Int) (u : Value) (l : List Fl) (vm : Value) (ms : List Nat) (i k : Int) (hz : Szs l) (ha : All 18446744073709551616 ms) (w : World) (hf : Fw w u l) (hr : Rw .u64 w vm ms) (hrt : rtB room l = true) (h : i < 0 ∨ (0 ≤ i ∧ (l.length : Int) ≤ i)) :
    Calls Try.prog 6 #[.agg #[.int .i64 room, u, vm, .int .i64 i, .int .i64 k]] w fun e w' => e = .returned (.bool true) ∧ Bl w w' := by
  have KS := Lib.hid (fun W => shown15 W)
  have KR := Lib.hid (fun W (g : Bl w W) => rRight_any room u l W (hf.bl g) hz)
  rw [hrt] at KR
  obtain ⟨N, hN⟩ : ∃ N, l.length = N := ⟨_, rfl⟩
  obtain ⟨A, c, rfl, _, _, _, hx⟩ := fw_open hf hN
  rw [hN] at h
  have BI0 := Lib.hid ((Bq.new w 47 [.int .i64 room, .slice A N c, vm, .int .i64 i, .int .i64 k]).alloc (.cells #[.int .i64 room, .slice A N c] 24))
  have BD0 := Lib.hid (bq_snd w (.cells #[.int .i64 room, .slice A N c, vm, .int .i64 i, .int .i64 k] 47) 24 [.int .i64 room, .slice A N c])
  clear hf hz hrt ha hr hN hx
  rcases h with h1 | ⟨h0, h1⟩
  · have q0 : decide (i < 0) = true := decide_eq_true h1
    go_enter Try.func6, Try.ntmps6
    go_wp2_with (first
      | (go_at_call 9; (with_reducible refine (KS.out _).mono ?_); rintro e w1 ⟨rfl, hb⟩; have G1 := Lib.hid ((((Bl.refl w).alloc (.cells #[.int .i64 room, .slice A N c, vm, .int .i64 i, .int .i64 k] 47)).alloc (.cells #[.int .i64 room, .slice A N c] 24)).trans hb); have BD1 := Lib.hid (BD0.out.bl hb); have cD0_1 := BD1.out.cell 0 rfl; have cD1_1 := BD1.out.cell 1 rfl; clear hb)
      | (go_at_call 10; (with_reducible refine (KR.out _ G1.out).mono ?_); rintro e w2 ⟨rfl, hb⟩; have G2 := Lib.hid (G1.out.trans hb); have BD2 := Lib.hid (BD1.out.bl hb); have cD0_2 := BD2.out.cell 0 rfl; have cD1_2 := BD2.out.cell 1 rfl; clear hb))
    go_ret
    exact ⟨rfl, G2.out⟩
  · have q0 : decide (i < 0) = false := decide_eq_false (by omega)
    have q1 : decide ((N : Int) ≤ i) = true := decide_eq_true h1
    go_enter Try.func6, Try.ntmps6
    go_wp2_with (first
      | (go_at_call 9; (with_reducible refine (KS.out _).mono ?_); rintro e w1 ⟨rfl, hb⟩; have G1 := Lib.hid ((((Bl.refl w).alloc (.cells #[.int .i64 room, .slice A N c, vm, .int .i64 i, .int .i64 k] 47)).alloc (.cells #[.int .i64 room, .slice A N c] 24)).trans hb); have BD1 := Lib.hid (BD0.out.bl hb); have cD0_1 := BD1.out.cell 0 rfl; have cD1_1 := BD1.out.cell 1 rfl; clear hb)
      | (go_at_call 10; (with_reducible refine (KR.out _ G1.out).mono ?_); rintro e w2 ⟨rfl, hb⟩; have G2 := Lib.hid (G1.out.trans hb); have BD2 := Lib.hid (BD1.out.bl hb); have cD0_2 := BD2.out.cell 0 rfl; have cD1_2 := BD2.out.cell 1 rfl; clear hb))
    go_ret
    exact ⟨rfl, G2.out⟩
set_option maxRecDepth 100000 in
set_option maxHeartbeats 8000000 in
theorem either_in (room : Int) (u : Value) (l : List Fl) (vm : Value) (ms : List Nat) (j : Nat) (k : Int) (hz : Szs l) (ha : All 18446744073709551616 ms) (w : World) (hf : Fw w u l) (hr : Rw .u64 w vm ms) (hrt : rtB room l = true) (hj : j < l.length) :
    Calls Try.prog 6 #[.agg #[.int .i64 room, u, vm, .int .i64 (j : Int), .int .i64 k]] w fun e w' => e = .returned (.bool true) ∧ Bl w w' := by
  have KS := Lib.hid (fun W => shown15 W)
  have KR := Lib.hid (fun W (g : Bl w W) => rRight_any room u l W (hf.bl g) hz)
  rw [hrt] at KR
  have hR := rtB_iff.1 hrt
  have hl : l.length < 1000 := by have := hR.2.1; omega
  have KC := Lib.hid (fun W (g : Bl w W) => pCrash_any room u vm l ms W (hf.bl g) (hr.bl g) ha hl hz)
  have hK : ∀ h : j < (cr l ms).length, (cr l ms)[j] = ⟨l[j].n, ktp l[j] (mk ms j), ktp l[j] (mk ms j)⟩ := fun h => cr_get l ms j hj
  have hlong := ktp_long l[j] (mk ms j)
  have hbyte := ktp_byte l[j] (mk ms j)
  have a24 := Try.isAgg49
  have z24 := Try.sizeOf49
  obtain ⟨N, hN⟩ : ∃ N, l.length = N := ⟨_, rfl⟩
  obtain ⟨A, c, rfl, _, _, _, hx⟩ := fw_open hf hN
  obtain ⟨a1, o1, rfl, hb1, hx1⟩ := hx (by omega)
  have h1 := hx1 j hj
  obtain ⟨K, hKe⟩ : ∃ K, ktp l[j] (mk ms j) = K := ⟨_, rfl⟩
  rw [hKe] at hK hlong hbyte
  obtain ⟨F, hF⟩ : ∃ F, l[j] = F := ⟨_, rfl⟩
  rw [hF] at hK hlong hbyte h1
  obtain ⟨fn, fd, fs⟩ := F
  have HKJ := Lib.hid hK
  have H1 : Hid (∀ W, Bl w W → W.cell? ⟨a1, o1 + j * 3, none⟩ = some (.string fn) ∧ W.cell? ⟨a1, o1 + j * 3 + 1, none⟩ = some (.string fd) ∧ W.cell? ⟨a1, o1 + j * 3 + 2, none⟩ = some (.string fs)) := fun W g => ⟨(g.cell hb1).trans h1.1, (g.cell hb1).trans h1.2.1, (g.cell hb1).trans h1.2.2⟩
  have HCA : Hid ((cr l ms).length = N) := by show _ = _; rw [cr_len]; exact hN
  rw [hN] at hj hl
  have HJ : Hid (j < N) := hj
  have hNb : (N : Int) ≤ 1000 := by omega
  have b1 : (0 : Int) ≤ (j : Int) ∧ (j : Int) < (N : Int) := by omega
  have q0 : decide ((j : Int) < 0) = false := decide_eq_false (by omega)
  have q1 : decide ((N : Int) ≤ (j : Int)) = false := decide_eq_false (by omega)
  have q1' : decide (N ≤ j) = false := decide_eq_false (by omega)
  obtain ⟨nk, hnk⟩ : ∃ n, K.size = n := ⟨_, rfl⟩
  obtain ⟨nd, hnd⟩ : ∃ n, fd.size = n := ⟨_, rfl⟩
  obtain ⟨ns, hns⟩ : ∃ n, fs.size = n := ⟨_, rfl⟩
  -- the lengths
  have hL : (nk = nd) ∨ (((nk : Int) != (nd : Int)) = true ∧ nk = ns) := by
    by_cases h : nk = nd
    · exact .inl h
    · refine .inr ⟨by rw [bne_iff_ne]; omega, ?_⟩
      rcases hlong with h2 | h2
      · exact absurd (hnk.symm.trans (h2.trans hnd)) h
      · exact hnk.symm.trans (h2.trans hns)
  -- the byte
  have hB : (k < 0) ∨ (0 ≤ k ∧ (nk : Int) ≤ k) ∨ ∃ κ u : Nat, k = (κ : Int) ∧ κ < nk ∧ (∀ h : κ < K.size, (K[κ]'h).toNat = u) ∧
      (u = 0 ∨ (((u : Int) == 0) = false ∧ κ < nd ∧ ∀ h : κ < fd.size, (fd[κ]'h).toNat = u) ∨
       (((u : Int) == 0) = false ∧ κ < nd ∧ (∃ d : Nat, (∀ h : κ < fd.size, (fd[κ]'h).toNat = d) ∧ ((u : Int) == (d : Int)) = false) ∧ κ < ns ∧ ∀ h : κ < fs.size, (fs[κ]'h).toNat = u) ∨
       (((u : Int) == 0) = false ∧ ¬ κ < nd ∧ κ < ns ∧ ∀ h : κ < fs.size, (fs[κ]'h).toNat = u)) := by
    by_cases h0 : k < 0
    · exact .inl h0
    by_cases h2 : (nk : Int) ≤ k
    · exact .inr (.inl ⟨by omega, h2⟩)
    obtain ⟨κ, rfl⟩ : ∃ κ : Nat, k = (κ : Int) := ⟨k.toNat, by omega⟩
    have hκ : κ < K.size := by omega
    refine .inr (.inr ⟨κ, (K[κ]'hκ).toNat, rfl, by omega, fun _ => rfl, ?_⟩)
    by_cases hu : (K[κ]'hκ).toNat = 0
    · exact .inl hu
    have hu' : (((K[κ]'hκ).toNat : Int) == 0) = false := by rw [beq_eq_false_iff_ne]; omega
    have hcase := (hbyte κ hκ).2
    by_cases hd : κ < fd.size
    · by_cases he : (fd[κ]'hd).toNat = (K[κ]'hκ).toNat
      · exact .inr (.inl ⟨hu', by omega, fun _ => he⟩)
      · rcases hcase with h3 | h3 | h3
        · exact absurd (by rw [byte_at hκ, h3]; rfl) hu
        · exact absurd (u8_eq hκ hd h3.2).symm he
        · exact .inr (.inr (.inl ⟨hu', by omega, ⟨(fd[κ]'hd).toNat, fun _ => rfl, by rw [beq_eq_false_iff_ne]; omega⟩, by have h4 : κ < fs.size := h3.1; omega, fun h => (u8_eq hκ h h3.2).symm⟩))
    · rcases hcase with h3 | h3 | h3
      · exact absurd (by rw [byte_at hκ, h3]; rfl) hu
      · exact absurd h3.1 hd
      · exact .inr (.inr (.inr ⟨hu', by omega, by have h4 : κ < fs.size := h3.1; omega, fun h => (u8_eq hκ h h3.2).symm⟩))
  have BI0 := Lib.hid ((Bq.new w 47 [.int .i64 room, .slice (some ⟨a1, o1, none⟩) N c, vm, .int .i64 (j : Int), .int .i64 k]).alloc (.cells #[.int .i64 room, .slice (some ⟨a1, o1, none⟩) N c] 24))
  have BD0 := Lib.hid (bq_snd w (.cells #[.int .i64 room, .slice (some ⟨a1, o1, none⟩) N c, vm, .int .i64 (j : Int), .int .i64 k] 47) 24 [.int .i64 room, .slice (some ⟨a1, o1, none⟩) N c])
  clear hf hz hrt ha hr hN hx1 hR hl hb1 hj h1 hF hKe hK hlong hbyte
  rcases hL with rfl | ⟨q2, rfl⟩
  all_goals rcases hB with h | ⟨h0, h⟩ | ⟨κ, x, rfl, hκ, hgK, hcase⟩
  · have p0 : decide (k < 0) = true := decide_eq_true h
    go_enter Try.func6, Try.ntmps6
    go_wp2_with (first
      | (go_at_call 9; (with_reducible refine (KS.out _).mono ?_); rintro e w1 ⟨rfl, hb⟩; have G1 := Lib.hid ((((Bl.refl w).alloc (.cells #[.int .i64 room, .slice (some ⟨a1, o1, none⟩) N c, vm, .int .i64 (j : Int), .int .i64 k] 47)).alloc (.cells #[.int .i64 room, .slice (some ⟨a1, o1, none⟩) N c] 24)).trans hb); have BD1 := Lib.hid (BD0.out.bl hb); have cD0_1 := BD1.out.cell 0 rfl; have cD1_1 := BD1.out.cell 1 rfl; clear hb)
      | (go_at_call 10; (with_reducible refine (KR.out _ G1.out).mono ?_); rintro e w2 ⟨rfl, hb⟩; have G2 := Lib.hid (G1.out.trans hb); have BD2 := Lib.hid (BD1.out.bl hb); have cD0_2 := BD2.out.cell 0 rfl; have cD1_2 := BD2.out.cell 1 rfl; clear hb)
      | (go_at_call 13; (with_reducible refine (KC.out _ G2.out).mono ?_); rintro e w3 ⟨v3, rfl, hv, hb⟩; obtain ⟨A3, c3, rfl, -, -, -, hy⟩ := fw_open hv HCA.out; obtain ⟨a2, o2, rfl, hb2, hx2⟩ := hy (by rw [HCA.out]; exact Nat.lt_of_le_of_lt (Nat.zero_le _) HJ.out); have k2 := hx2 j (by rw [HCA.out]; exact HJ.out); rw [HKJ.out] at k2; have G3 := Lib.hid (G2.out.trans hb); have BD3 := Lib.hid ((BD2.out.bl hb).alloc (.cells #[.int .i64 room, .slice (some ⟨a2, o2, none⟩) N c3] 24)); have BC3 := Lib.hid (Bq.new w3 24 [.int .i64 room, .slice (some ⟨a2, o2, none⟩) N c3]); have G3' := Lib.hid (G3.out.alloc (.cells #[.int .i64 room, .slice (some ⟨a2, o2, none⟩) N c3] 24)); have cD0_3 := BD3.out.cell 0 rfl; have cD1_3 := BD3.out.cell 1 rfl; have cC0_3 := BC3.out.cell 0 rfl; have cC1_3 := BC3.out.cell 1 rfl; have x3 := (H1.out _ G3'.out).1; have y3 := (H1.out _ G3'.out).2.1; have z3 := (H1.out _ G3'.out).2.2; have G4 := Lib.hid (G3'.out.alloc (.cells #[.string fn, .string fd, .string fs] 49)); have BF4 := Lib.hid (bq_snd w3 (.cells #[.int .i64 room, .slice (some ⟨a2, o2, none⟩) N c3] 24) 49 [.string fn, .string fd, .string fs]); have BC4 := Lib.hid (BC3.out.alloc (.cells #[.string fn, .string fd, .string fs] 49)); have BD4 := Lib.hid (BD3.out.alloc (.cells #[.string fn, .string fd, .string fs] 49)); have cD0_4 := BD4.out.cell 0 rfl; have cD1_4 := BD4.out.cell 1 rfl; have cC0_4 := BC4.out.cell 0 rfl; have cC1_4 := BC4.out.cell 1 rfl; have cF0_4 := BF4.out.cell 0 rfl; have cF1_4 := BF4.out.cell 1 rfl; have cF2_4 := BF4.out.cell 2 rfl; have y4 : ((w3.alloc (.cells #[.int .i64 room, .slice (some ⟨a2, o2, none⟩) N c3] 24)).alloc (.cells #[.string fn, .string fd, .string fs] 49)).cell? ⟨a2, o2 + j * 3 + 1, none⟩ = some (.string K) := ((((Bl.refl w3).alloc (.cells #[.int .i64 room, .slice (some ⟨a2, o2, none⟩) N c3] 24)).alloc (.cells #[.string fn, .string fd, .string fs] 49)).cell hb2).trans k2.2.1; have z4 : ((w3.alloc (.cells #[.int .i64 room, .slice (some ⟨a2, o2, none⟩) N c3] 24)).alloc (.cells #[.string fn, .string fd, .string fs] 49)).cell? ⟨a2, o2 + j * 3 + 2, none⟩ = some (.string K) := ((((Bl.refl w3).alloc (.cells #[.int .i64 room, .slice (some ⟨a2, o2, none⟩) N c3] 24)).alloc (.cells #[.string fn, .string fd, .string fs] 49)).cell hb2).trans k2.2.2; clear hb hv hy hx2 k2 hb2))
    go_ret
    exact ⟨rfl, G4.out⟩
  · have p0 : decide (k < 0) = false := decide_eq_false (by omega)
    have p1 : decide ((nk : Int) ≤ k) = true := decide_eq_true h
    go_enter Try.func6, Try.ntmps6
    go_wp2_with (first
      | (go_at_call 9; (with_reducible refine (KS.out _).mono ?_); rintro e w1 ⟨rfl, hb⟩; have G1 := Lib.hid ((((Bl.refl w).alloc (.cells #[.int .i64 room, .slice (some ⟨a1, o1, none⟩) N c, vm, .int .i64 (j : Int), .int .i64 k] 47)).alloc (.cells #[.int .i64 room, .slice (some ⟨a1, o1, none⟩) N c] 24)).trans hb); have BD1 := Lib.hid (BD0.out.bl hb); have cD0_1 := BD1.out.cell 0 rfl; have cD1_1 := BD1.out.cell 1 rfl; clear hb)
      | (go_at_call 10; (with_reducible refine (KR.out _ G1.out).mono ?_); rintro e w2 ⟨rfl, hb⟩; have G2 := Lib.hid (G1.out.trans hb); have BD2 := Lib.hid (BD1.out.bl hb); have cD0_2 := BD2.out.cell 0 rfl; have cD1_2 := BD2.out.cell 1 rfl; clear hb)
      | (go_at_call 13; (with_reducible refine (KC.out _ G2.out).mono ?_); rintro e w3 ⟨v3, rfl, hv, hb⟩; obtain ⟨A3, c3, rfl, -, -, -, hy⟩ := fw_open hv HCA.out; obtain ⟨a2, o2, rfl, hb2, hx2⟩ := hy (by rw [HCA.out]; exact Nat.lt_of_le_of_lt (Nat.zero_le _) HJ.out); have k2 := hx2 j (by rw [HCA.out]; exact HJ.out); rw [HKJ.out] at k2; have G3 := Lib.hid (G2.out.trans hb); have BD3 := Lib.hid ((BD2.out.bl hb).alloc (.cells #[.int .i64 room, .slice (some ⟨a2, o2, none⟩) N c3] 24)); have BC3 := Lib.hid (Bq.new w3 24 [.int .i64 room, .slice (some ⟨a2, o2, none⟩) N c3]); have G3' := Lib.hid (G3.out.alloc (.cells #[.int .i64 room, .slice (some ⟨a2, o2, none⟩) N c3] 24)); have cD0_3 := BD3.out.cell 0 rfl; have cD1_3 := BD3.out.cell 1 rfl; have cC0_3 := BC3.out.cell 0 rfl; have cC1_3 := BC3.out.cell 1 rfl; have x3 := (H1.out _ G3'.out).1; have y3 := (H1.out _ G3'.out).2.1; have z3 := (H1.out _ G3'.out).2.2; have G4 := Lib.hid (G3'.out.alloc (.cells #[.string fn, .string fd, .string fs] 49)); have BF4 := Lib.hid (bq_snd w3 (.cells #[.int .i64 room, .slice (some ⟨a2, o2, none⟩) N c3] 24) 49 [.string fn, .string fd, .string fs]); have BC4 := Lib.hid (BC3.out.alloc (.cells #[.string fn, .string fd, .string fs] 49)); have BD4 := Lib.hid (BD3.out.alloc (.cells #[.string fn, .string fd, .string fs] 49)); have cD0_4 := BD4.out.cell 0 rfl; have cD1_4 := BD4.out.cell 1 rfl; have cC0_4 := BC4.out.cell 0 rfl; have cC1_4 := BC4.out.cell 1 rfl; have cF0_4 := BF4.out.cell 0 rfl; have cF1_4 := BF4.out.cell 1 rfl; have cF2_4 := BF4.out.cell 2 rfl; have y4 : ((w3.alloc (.cells #[.int .i64 room, .slice (some ⟨a2, o2, none⟩) N c3] 24)).alloc (.cells #[.string fn, .string fd, .string fs] 49)).cell? ⟨a2, o2 + j * 3 + 1, none⟩ = some (.string K) := ((((Bl.refl w3).alloc (.cells #[.int .i64 room, .slice (some ⟨a2, o2, none⟩) N c3] 24)).alloc (.cells #[.string fn, .string fd, .string fs] 49)).cell hb2).trans k2.2.1; have z4 : ((w3.alloc (.cells #[.int .i64 room, .slice (some ⟨a2, o2, none⟩) N c3] 24)).alloc (.cells #[.string fn, .string fd, .string fs] 49)).cell? ⟨a2, o2 + j * 3 + 2, none⟩ = some (.string K) := ((((Bl.refl w3).alloc (.cells #[.int .i64 room, .slice (some ⟨a2, o2, none⟩) N c3] 24)).alloc (.cells #[.string fn, .string fd, .string fs] 49)).cell hb2).trans k2.2.2; clear hb hv hy hx2 k2 hb2))
    go_ret
    exact ⟨rfl, G4.out⟩
  · skip
    have hκi : (κ : Int) < (nk : Int) := by omega
    have p0 : decide ((κ : Int) < 0) = false := decide_eq_false (by omega)
    have p1 : decide ((nk : Int) ≤ (κ : Int)) = false := decide_eq_false (by omega)
    have p1' : decide (nk ≤ κ) = false := decide_eq_false (by omega)
    have b2 : (0 : Int) ≤ (κ : Int) ∧ (κ : Int) < (nk : Int) := by omega
    have gK : ∀ h' : κ < K.size, ((K[κ]'h').toNat : Int) = (x : Int) := fun h' => by rw [hgK h']
    rcases hcase with rfl | ⟨t0, hd, gD⟩ | ⟨t0, hd, ⟨y, gD, t1⟩, hs, gS⟩ | ⟨t0, hd, hs, gS⟩
    · skip
      go_enter Try.func6, Try.ntmps6
      go_wp2_with (first
        | (go_at_call 9; (with_reducible refine (KS.out _).mono ?_); rintro e w1 ⟨rfl, hb⟩; have G1 := Lib.hid ((((Bl.refl w).alloc (.cells #[.int .i64 room, .slice (some ⟨a1, o1, none⟩) N c, vm, .int .i64 (j : Int), .int .i64 (κ : Int)] 47)).alloc (.cells #[.int .i64 room, .slice (some ⟨a1, o1, none⟩) N c] 24)).trans hb); have BD1 := Lib.hid (BD0.out.bl hb); have cD0_1 := BD1.out.cell 0 rfl; have cD1_1 := BD1.out.cell 1 rfl; clear hb)
        | (go_at_call 10; (with_reducible refine (KR.out _ G1.out).mono ?_); rintro e w2 ⟨rfl, hb⟩; have G2 := Lib.hid (G1.out.trans hb); have BD2 := Lib.hid (BD1.out.bl hb); have cD0_2 := BD2.out.cell 0 rfl; have cD1_2 := BD2.out.cell 1 rfl; clear hb)
        | (go_at_call 13; (with_reducible refine (KC.out _ G2.out).mono ?_); rintro e w3 ⟨v3, rfl, hv, hb⟩; obtain ⟨A3, c3, rfl, -, -, -, hy⟩ := fw_open hv HCA.out; obtain ⟨a2, o2, rfl, hb2, hx2⟩ := hy (by rw [HCA.out]; exact Nat.lt_of_le_of_lt (Nat.zero_le _) HJ.out); have k2 := hx2 j (by rw [HCA.out]; exact HJ.out); rw [HKJ.out] at k2; have G3 := Lib.hid (G2.out.trans hb); have BD3 := Lib.hid ((BD2.out.bl hb).alloc (.cells #[.int .i64 room, .slice (some ⟨a2, o2, none⟩) N c3] 24)); have BC3 := Lib.hid (Bq.new w3 24 [.int .i64 room, .slice (some ⟨a2, o2, none⟩) N c3]); have G3' := Lib.hid (G3.out.alloc (.cells #[.int .i64 room, .slice (some ⟨a2, o2, none⟩) N c3] 24)); have cD0_3 := BD3.out.cell 0 rfl; have cD1_3 := BD3.out.cell 1 rfl; have cC0_3 := BC3.out.cell 0 rfl; have cC1_3 := BC3.out.cell 1 rfl; have x3 := (H1.out _ G3'.out).1; have y3 := (H1.out _ G3'.out).2.1; have z3 := (H1.out _ G3'.out).2.2; have G4 := Lib.hid (G3'.out.alloc (.cells #[.string fn, .string fd, .string fs] 49)); have BF4 := Lib.hid (bq_snd w3 (.cells #[.int .i64 room, .slice (some ⟨a2, o2, none⟩) N c3] 24) 49 [.string fn, .string fd, .string fs]); have BC4 := Lib.hid (BC3.out.alloc (.cells #[.string fn, .string fd, .string fs] 49)); have BD4 := Lib.hid (BD3.out.alloc (.cells #[.string fn, .string fd, .string fs] 49)); have cD0_4 := BD4.out.cell 0 rfl; have cD1_4 := BD4.out.cell 1 rfl; have cC0_4 := BC4.out.cell 0 rfl; have cC1_4 := BC4.out.cell 1 rfl; have cF0_4 := BF4.out.cell 0 rfl; have cF1_4 := BF4.out.cell 1 rfl; have cF2_4 := BF4.out.cell 2 rfl; have y4 : ((w3.alloc (.cells #[.int .i64 room, .slice (some ⟨a2, o2, none⟩) N c3] 24)).alloc (.cells #[.string fn, .string fd, .string fs] 49)).cell? ⟨a2, o2 + j * 3 + 1, none⟩ = some (.string K) := ((((Bl.refl w3).alloc (.cells #[.int .i64 room, .slice (some ⟨a2, o2, none⟩) N c3] 24)).alloc (.cells #[.string fn, .string fd, .string fs] 49)).cell hb2).trans k2.2.1; have z4 : ((w3.alloc (.cells #[.int .i64 room, .slice (some ⟨a2, o2, none⟩) N c3] 24)).alloc (.cells #[.string fn, .string fd, .string fs] 49)).cell? ⟨a2, o2 + j * 3 + 2, none⟩ = some (.string K) := ((((Bl.refl w3).alloc (.cells #[.int .i64 room, .slice (some ⟨a2, o2, none⟩) N c3] 24)).alloc (.cells #[.string fn, .string fd, .string fs] 49)).cell hb2).trans k2.2.2; clear hb hv hy hx2 k2 hb2))
      go_quiet (fail)
      go_wp2
      go_ret
      exact ⟨rfl, G4.out.drewN _⟩
    · skip
      have qd : (κ : Int) < (nk : Int) := by omega
      have b3 : (0 : Int) ≤ (κ : Int) ∧ (κ : Int) < (nk : Int) := by omega
      have gD' : ∀ h' : κ < fd.size, ((fd[κ]'h').toNat : Int) = (x : Int) := fun h' => by rw [gD h']
      go_enter Try.func6, Try.ntmps6
      go_wp2_with (first
        | (go_at_call 9; (with_reducible refine (KS.out _).mono ?_); rintro e w1 ⟨rfl, hb⟩; have G1 := Lib.hid ((((Bl.refl w).alloc (.cells #[.int .i64 room, .slice (some ⟨a1, o1, none⟩) N c, vm, .int .i64 (j : Int), .int .i64 (κ : Int)] 47)).alloc (.cells #[.int .i64 room, .slice (some ⟨a1, o1, none⟩) N c] 24)).trans hb); have BD1 := Lib.hid (BD0.out.bl hb); have cD0_1 := BD1.out.cell 0 rfl; have cD1_1 := BD1.out.cell 1 rfl; clear hb)
        | (go_at_call 10; (with_reducible refine (KR.out _ G1.out).mono ?_); rintro e w2 ⟨rfl, hb⟩; have G2 := Lib.hid (G1.out.trans hb); have BD2 := Lib.hid (BD1.out.bl hb); have cD0_2 := BD2.out.cell 0 rfl; have cD1_2 := BD2.out.cell 1 rfl; clear hb)
        | (go_at_call 13; (with_reducible refine (KC.out _ G2.out).mono ?_); rintro e w3 ⟨v3, rfl, hv, hb⟩; obtain ⟨A3, c3, rfl, -, -, -, hy⟩ := fw_open hv HCA.out; obtain ⟨a2, o2, rfl, hb2, hx2⟩ := hy (by rw [HCA.out]; exact Nat.lt_of_le_of_lt (Nat.zero_le _) HJ.out); have k2 := hx2 j (by rw [HCA.out]; exact HJ.out); rw [HKJ.out] at k2; have G3 := Lib.hid (G2.out.trans hb); have BD3 := Lib.hid ((BD2.out.bl hb).alloc (.cells #[.int .i64 room, .slice (some ⟨a2, o2, none⟩) N c3] 24)); have BC3 := Lib.hid (Bq.new w3 24 [.int .i64 room, .slice (some ⟨a2, o2, none⟩) N c3]); have G3' := Lib.hid (G3.out.alloc (.cells #[.int .i64 room, .slice (some ⟨a2, o2, none⟩) N c3] 24)); have cD0_3 := BD3.out.cell 0 rfl; have cD1_3 := BD3.out.cell 1 rfl; have cC0_3 := BC3.out.cell 0 rfl; have cC1_3 := BC3.out.cell 1 rfl; have x3 := (H1.out _ G3'.out).1; have y3 := (H1.out _ G3'.out).2.1; have z3 := (H1.out _ G3'.out).2.2; have G4 := Lib.hid (G3'.out.alloc (.cells #[.string fn, .string fd, .string fs] 49)); have BF4 := Lib.hid (bq_snd w3 (.cells #[.int .i64 room, .slice (some ⟨a2, o2, none⟩) N c3] 24) 49 [.string fn, .string fd, .string fs]); have BC4 := Lib.hid (BC3.out.alloc (.cells #[.string fn, .string fd, .string fs] 49)); have BD4 := Lib.hid (BD3.out.alloc (.cells #[.string fn, .string fd, .string fs] 49)); have cD0_4 := BD4.out.cell 0 rfl; have cD1_4 := BD4.out.cell 1 rfl; have cC0_4 := BC4.out.cell 0 rfl; have cC1_4 := BC4.out.cell 1 rfl; have cF0_4 := BF4.out.cell 0 rfl; have cF1_4 := BF4.out.cell 1 rfl; have cF2_4 := BF4.out.cell 2 rfl; have y4 : ((w3.alloc (.cells #[.int .i64 room, .slice (some ⟨a2, o2, none⟩) N c3] 24)).alloc (.cells #[.string fn, .string fd, .string fs] 49)).cell? ⟨a2, o2 + j * 3 + 1, none⟩ = some (.string K) := ((((Bl.refl w3).alloc (.cells #[.int .i64 room, .slice (some ⟨a2, o2, none⟩) N c3] 24)).alloc (.cells #[.string fn, .string fd, .string fs] 49)).cell hb2).trans k2.2.1; have z4 : ((w3.alloc (.cells #[.int .i64 room, .slice (some ⟨a2, o2, none⟩) N c3] 24)).alloc (.cells #[.string fn, .string fd, .string fs] 49)).cell? ⟨a2, o2 + j * 3 + 2, none⟩ = some (.string K) := ((((Bl.refl w3).alloc (.cells #[.int .i64 room, .slice (some ⟨a2, o2, none⟩) N c3] 24)).alloc (.cells #[.string fn, .string fd, .string fs] 49)).cell hb2).trans k2.2.2; clear hb hv hy hx2 k2 hb2))
      go_quiet (fail)
      go_wp2
      go_ret
      exact ⟨rfl, G4.out.drewN _⟩
    · skip
      have qd : (κ : Int) < (nk : Int) := by omega
      have b3 : (0 : Int) ≤ (κ : Int) ∧ (κ : Int) < (nk : Int) := by omega
      have gD' : ∀ h' : κ < fd.size, ((fd[κ]'h').toNat : Int) = (y : Int) := fun h' => by rw [gD h']
      have qs : (κ : Int) < (ns : Int) := by omega
      have b4 : (0 : Int) ≤ (κ : Int) ∧ (κ : Int) < (ns : Int) := by omega
      have gS' : ∀ h' : κ < fs.size, ((fs[κ]'h').toNat : Int) = (x : Int) := fun h' => by rw [gS h']
      go_enter Try.func6, Try.ntmps6
      go_wp2_with (first
        | (go_at_call 9; (with_reducible refine (KS.out _).mono ?_); rintro e w1 ⟨rfl, hb⟩; have G1 := Lib.hid ((((Bl.refl w).alloc (.cells #[.int .i64 room, .slice (some ⟨a1, o1, none⟩) N c, vm, .int .i64 (j : Int), .int .i64 (κ : Int)] 47)).alloc (.cells #[.int .i64 room, .slice (some ⟨a1, o1, none⟩) N c] 24)).trans hb); have BD1 := Lib.hid (BD0.out.bl hb); have cD0_1 := BD1.out.cell 0 rfl; have cD1_1 := BD1.out.cell 1 rfl; clear hb)
        | (go_at_call 10; (with_reducible refine (KR.out _ G1.out).mono ?_); rintro e w2 ⟨rfl, hb⟩; have G2 := Lib.hid (G1.out.trans hb); have BD2 := Lib.hid (BD1.out.bl hb); have cD0_2 := BD2.out.cell 0 rfl; have cD1_2 := BD2.out.cell 1 rfl; clear hb)
        | (go_at_call 13; (with_reducible refine (KC.out _ G2.out).mono ?_); rintro e w3 ⟨v3, rfl, hv, hb⟩; obtain ⟨A3, c3, rfl, -, -, -, hy⟩ := fw_open hv HCA.out; obtain ⟨a2, o2, rfl, hb2, hx2⟩ := hy (by rw [HCA.out]; exact Nat.lt_of_le_of_lt (Nat.zero_le _) HJ.out); have k2 := hx2 j (by rw [HCA.out]; exact HJ.out); rw [HKJ.out] at k2; have G3 := Lib.hid (G2.out.trans hb); have BD3 := Lib.hid ((BD2.out.bl hb).alloc (.cells #[.int .i64 room, .slice (some ⟨a2, o2, none⟩) N c3] 24)); have BC3 := Lib.hid (Bq.new w3 24 [.int .i64 room, .slice (some ⟨a2, o2, none⟩) N c3]); have G3' := Lib.hid (G3.out.alloc (.cells #[.int .i64 room, .slice (some ⟨a2, o2, none⟩) N c3] 24)); have cD0_3 := BD3.out.cell 0 rfl; have cD1_3 := BD3.out.cell 1 rfl; have cC0_3 := BC3.out.cell 0 rfl; have cC1_3 := BC3.out.cell 1 rfl; have x3 := (H1.out _ G3'.out).1; have y3 := (H1.out _ G3'.out).2.1; have z3 := (H1.out _ G3'.out).2.2; have G4 := Lib.hid (G3'.out.alloc (.cells #[.string fn, .string fd, .string fs] 49)); have BF4 := Lib.hid (bq_snd w3 (.cells #[.int .i64 room, .slice (some ⟨a2, o2, none⟩) N c3] 24) 49 [.string fn, .string fd, .string fs]); have BC4 := Lib.hid (BC3.out.alloc (.cells #[.string fn, .string fd, .string fs] 49)); have BD4 := Lib.hid (BD3.out.alloc (.cells #[.string fn, .string fd, .string fs] 49)); have cD0_4 := BD4.out.cell 0 rfl; have cD1_4 := BD4.out.cell 1 rfl; have cC0_4 := BC4.out.cell 0 rfl; have cC1_4 := BC4.out.cell 1 rfl; have cF0_4 := BF4.out.cell 0 rfl; have cF1_4 := BF4.out.cell 1 rfl; have cF2_4 := BF4.out.cell 2 rfl; have y4 : ((w3.alloc (.cells #[.int .i64 room, .slice (some ⟨a2, o2, none⟩) N c3] 24)).alloc (.cells #[.string fn, .string fd, .string fs] 49)).cell? ⟨a2, o2 + j * 3 + 1, none⟩ = some (.string K) := ((((Bl.refl w3).alloc (.cells #[.int .i64 room, .slice (some ⟨a2, o2, none⟩) N c3] 24)).alloc (.cells #[.string fn, .string fd, .string fs] 49)).cell hb2).trans k2.2.1; have z4 : ((w3.alloc (.cells #[.int .i64 room, .slice (some ⟨a2, o2, none⟩) N c3] 24)).alloc (.cells #[.string fn, .string fd, .string fs] 49)).cell? ⟨a2, o2 + j * 3 + 2, none⟩ = some (.string K) := ((((Bl.refl w3).alloc (.cells #[.int .i64 room, .slice (some ⟨a2, o2, none⟩) N c3] 24)).alloc (.cells #[.string fn, .string fd, .string fs] 49)).cell hb2).trans k2.2.2; clear hb hv hy hx2 k2 hb2))
      go_quiet (fail)
      go_wp2
      go_ret
      exact ⟨rfl, G4.out.drewN _⟩
    · exact absurd hκ hd
  · have p0 : decide (k < 0) = true := decide_eq_true h
    go_enter Try.func6, Try.ntmps6
    go_wp2_with (first
      | (go_at_call 9; (with_reducible refine (KS.out _).mono ?_); rintro e w1 ⟨rfl, hb⟩; have G1 := Lib.hid ((((Bl.refl w).alloc (.cells #[.int .i64 room, .slice (some ⟨a1, o1, none⟩) N c, vm, .int .i64 (j : Int), .int .i64 k] 47)).alloc (.cells #[.int .i64 room, .slice (some ⟨a1, o1, none⟩) N c] 24)).trans hb); have BD1 := Lib.hid (BD0.out.bl hb); have cD0_1 := BD1.out.cell 0 rfl; have cD1_1 := BD1.out.cell 1 rfl; clear hb)
      | (go_at_call 10; (with_reducible refine (KR.out _ G1.out).mono ?_); rintro e w2 ⟨rfl, hb⟩; have G2 := Lib.hid (G1.out.trans hb); have BD2 := Lib.hid (BD1.out.bl hb); have cD0_2 := BD2.out.cell 0 rfl; have cD1_2 := BD2.out.cell 1 rfl; clear hb)
      | (go_at_call 13; (with_reducible refine (KC.out _ G2.out).mono ?_); rintro e w3 ⟨v3, rfl, hv, hb⟩; obtain ⟨A3, c3, rfl, -, -, -, hy⟩ := fw_open hv HCA.out; obtain ⟨a2, o2, rfl, hb2, hx2⟩ := hy (by rw [HCA.out]; exact Nat.lt_of_le_of_lt (Nat.zero_le _) HJ.out); have k2 := hx2 j (by rw [HCA.out]; exact HJ.out); rw [HKJ.out] at k2; have G3 := Lib.hid (G2.out.trans hb); have BD3 := Lib.hid ((BD2.out.bl hb).alloc (.cells #[.int .i64 room, .slice (some ⟨a2, o2, none⟩) N c3] 24)); have BC3 := Lib.hid (Bq.new w3 24 [.int .i64 room, .slice (some ⟨a2, o2, none⟩) N c3]); have G3' := Lib.hid (G3.out.alloc (.cells #[.int .i64 room, .slice (some ⟨a2, o2, none⟩) N c3] 24)); have cD0_3 := BD3.out.cell 0 rfl; have cD1_3 := BD3.out.cell 1 rfl; have cC0_3 := BC3.out.cell 0 rfl; have cC1_3 := BC3.out.cell 1 rfl; have x3 := (H1.out _ G3'.out).1; have y3 := (H1.out _ G3'.out).2.1; have z3 := (H1.out _ G3'.out).2.2; have G4 := Lib.hid (G3'.out.alloc (.cells #[.string fn, .string fd, .string fs] 49)); have BF4 := Lib.hid (bq_snd w3 (.cells #[.int .i64 room, .slice (some ⟨a2, o2, none⟩) N c3] 24) 49 [.string fn, .string fd, .string fs]); have BC4 := Lib.hid (BC3.out.alloc (.cells #[.string fn, .string fd, .string fs] 49)); have BD4 := Lib.hid (BD3.out.alloc (.cells #[.string fn, .string fd, .string fs] 49)); have cD0_4 := BD4.out.cell 0 rfl; have cD1_4 := BD4.out.cell 1 rfl; have cC0_4 := BC4.out.cell 0 rfl; have cC1_4 := BC4.out.cell 1 rfl; have cF0_4 := BF4.out.cell 0 rfl; have cF1_4 := BF4.out.cell 1 rfl; have cF2_4 := BF4.out.cell 2 rfl; have y4 : ((w3.alloc (.cells #[.int .i64 room, .slice (some ⟨a2, o2, none⟩) N c3] 24)).alloc (.cells #[.string fn, .string fd, .string fs] 49)).cell? ⟨a2, o2 + j * 3 + 1, none⟩ = some (.string K) := ((((Bl.refl w3).alloc (.cells #[.int .i64 room, .slice (some ⟨a2, o2, none⟩) N c3] 24)).alloc (.cells #[.string fn, .string fd, .string fs] 49)).cell hb2).trans k2.2.1; have z4 : ((w3.alloc (.cells #[.int .i64 room, .slice (some ⟨a2, o2, none⟩) N c3] 24)).alloc (.cells #[.string fn, .string fd, .string fs] 49)).cell? ⟨a2, o2 + j * 3 + 2, none⟩ = some (.string K) := ((((Bl.refl w3).alloc (.cells #[.int .i64 room, .slice (some ⟨a2, o2, none⟩) N c3] 24)).alloc (.cells #[.string fn, .string fd, .string fs] 49)).cell hb2).trans k2.2.2; clear hb hv hy hx2 k2 hb2))
    go_ret
    exact ⟨rfl, G4.out⟩
  · have p0 : decide (k < 0) = false := decide_eq_false (by omega)
    have p1 : decide ((nk : Int) ≤ k) = true := decide_eq_true h
    go_enter Try.func6, Try.ntmps6
    go_wp2_with (first
      | (go_at_call 9; (with_reducible refine (KS.out _).mono ?_); rintro e w1 ⟨rfl, hb⟩; have G1 := Lib.hid ((((Bl.refl w).alloc (.cells #[.int .i64 room, .slice (some ⟨a1, o1, none⟩) N c, vm, .int .i64 (j : Int), .int .i64 k] 47)).alloc (.cells #[.int .i64 room, .slice (some ⟨a1, o1, none⟩) N c] 24)).trans hb); have BD1 := Lib.hid (BD0.out.bl hb); have cD0_1 := BD1.out.cell 0 rfl; have cD1_1 := BD1.out.cell 1 rfl; clear hb)
      | (go_at_call 10; (with_reducible refine (KR.out _ G1.out).mono ?_); rintro e w2 ⟨rfl, hb⟩; have G2 := Lib.hid (G1.out.trans hb); have BD2 := Lib.hid (BD1.out.bl hb); have cD0_2 := BD2.out.cell 0 rfl; have cD1_2 := BD2.out.cell 1 rfl; clear hb)
      | (go_at_call 13; (with_reducible refine (KC.out _ G2.out).mono ?_); rintro e w3 ⟨v3, rfl, hv, hb⟩; obtain ⟨A3, c3, rfl, -, -, -, hy⟩ := fw_open hv HCA.out; obtain ⟨a2, o2, rfl, hb2, hx2⟩ := hy (by rw [HCA.out]; exact Nat.lt_of_le_of_lt (Nat.zero_le _) HJ.out); have k2 := hx2 j (by rw [HCA.out]; exact HJ.out); rw [HKJ.out] at k2; have G3 := Lib.hid (G2.out.trans hb); have BD3 := Lib.hid ((BD2.out.bl hb).alloc (.cells #[.int .i64 room, .slice (some ⟨a2, o2, none⟩) N c3] 24)); have BC3 := Lib.hid (Bq.new w3 24 [.int .i64 room, .slice (some ⟨a2, o2, none⟩) N c3]); have G3' := Lib.hid (G3.out.alloc (.cells #[.int .i64 room, .slice (some ⟨a2, o2, none⟩) N c3] 24)); have cD0_3 := BD3.out.cell 0 rfl; have cD1_3 := BD3.out.cell 1 rfl; have cC0_3 := BC3.out.cell 0 rfl; have cC1_3 := BC3.out.cell 1 rfl; have x3 := (H1.out _ G3'.out).1; have y3 := (H1.out _ G3'.out).2.1; have z3 := (H1.out _ G3'.out).2.2; have G4 := Lib.hid (G3'.out.alloc (.cells #[.string fn, .string fd, .string fs] 49)); have BF4 := Lib.hid (bq_snd w3 (.cells #[.int .i64 room, .slice (some ⟨a2, o2, none⟩) N c3] 24) 49 [.string fn, .string fd, .string fs]); have BC4 := Lib.hid (BC3.out.alloc (.cells #[.string fn, .string fd, .string fs] 49)); have BD4 := Lib.hid (BD3.out.alloc (.cells #[.string fn, .string fd, .string fs] 49)); have cD0_4 := BD4.out.cell 0 rfl; have cD1_4 := BD4.out.cell 1 rfl; have cC0_4 := BC4.out.cell 0 rfl; have cC1_4 := BC4.out.cell 1 rfl; have cF0_4 := BF4.out.cell 0 rfl; have cF1_4 := BF4.out.cell 1 rfl; have cF2_4 := BF4.out.cell 2 rfl; have y4 : ((w3.alloc (.cells #[.int .i64 room, .slice (some ⟨a2, o2, none⟩) N c3] 24)).alloc (.cells #[.string fn, .string fd, .string fs] 49)).cell? ⟨a2, o2 + j * 3 + 1, none⟩ = some (.string K) := ((((Bl.refl w3).alloc (.cells #[.int .i64 room, .slice (some ⟨a2, o2, none⟩) N c3] 24)).alloc (.cells #[.string fn, .string fd, .string fs] 49)).cell hb2).trans k2.2.1; have z4 : ((w3.alloc (.cells #[.int .i64 room, .slice (some ⟨a2, o2, none⟩) N c3] 24)).alloc (.cells #[.string fn, .string fd, .string fs] 49)).cell? ⟨a2, o2 + j * 3 + 2, none⟩ = some (.string K) := ((((Bl.refl w3).alloc (.cells #[.int .i64 room, .slice (some ⟨a2, o2, none⟩) N c3] 24)).alloc (.cells #[.string fn, .string fd, .string fs] 49)).cell hb2).trans k2.2.2; clear hb hv hy hx2 k2 hb2))
    go_ret
    exact ⟨rfl, G4.out⟩
  · skip
    have hκi : (κ : Int) < (nk : Int) := by omega
    have p0 : decide ((κ : Int) < 0) = false := decide_eq_false (by omega)
    have p1 : decide ((nk : Int) ≤ (κ : Int)) = false := decide_eq_false (by omega)
    have p1' : decide (nk ≤ κ) = false := decide_eq_false (by omega)
    have b2 : (0 : Int) ≤ (κ : Int) ∧ (κ : Int) < (nk : Int) := by omega
    have gK : ∀ h' : κ < K.size, ((K[κ]'h').toNat : Int) = (x : Int) := fun h' => by rw [hgK h']
    rcases hcase with rfl | ⟨t0, hd, gD⟩ | ⟨t0, hd, ⟨y, gD, t1⟩, hs, gS⟩ | ⟨t0, hd, hs, gS⟩
    · skip
      go_enter Try.func6, Try.ntmps6
      go_wp2_with (first
        | (go_at_call 9; (with_reducible refine (KS.out _).mono ?_); rintro e w1 ⟨rfl, hb⟩; have G1 := Lib.hid ((((Bl.refl w).alloc (.cells #[.int .i64 room, .slice (some ⟨a1, o1, none⟩) N c, vm, .int .i64 (j : Int), .int .i64 (κ : Int)] 47)).alloc (.cells #[.int .i64 room, .slice (some ⟨a1, o1, none⟩) N c] 24)).trans hb); have BD1 := Lib.hid (BD0.out.bl hb); have cD0_1 := BD1.out.cell 0 rfl; have cD1_1 := BD1.out.cell 1 rfl; clear hb)
        | (go_at_call 10; (with_reducible refine (KR.out _ G1.out).mono ?_); rintro e w2 ⟨rfl, hb⟩; have G2 := Lib.hid (G1.out.trans hb); have BD2 := Lib.hid (BD1.out.bl hb); have cD0_2 := BD2.out.cell 0 rfl; have cD1_2 := BD2.out.cell 1 rfl; clear hb)
        | (go_at_call 13; (with_reducible refine (KC.out _ G2.out).mono ?_); rintro e w3 ⟨v3, rfl, hv, hb⟩; obtain ⟨A3, c3, rfl, -, -, -, hy⟩ := fw_open hv HCA.out; obtain ⟨a2, o2, rfl, hb2, hx2⟩ := hy (by rw [HCA.out]; exact Nat.lt_of_le_of_lt (Nat.zero_le _) HJ.out); have k2 := hx2 j (by rw [HCA.out]; exact HJ.out); rw [HKJ.out] at k2; have G3 := Lib.hid (G2.out.trans hb); have BD3 := Lib.hid ((BD2.out.bl hb).alloc (.cells #[.int .i64 room, .slice (some ⟨a2, o2, none⟩) N c3] 24)); have BC3 := Lib.hid (Bq.new w3 24 [.int .i64 room, .slice (some ⟨a2, o2, none⟩) N c3]); have G3' := Lib.hid (G3.out.alloc (.cells #[.int .i64 room, .slice (some ⟨a2, o2, none⟩) N c3] 24)); have cD0_3 := BD3.out.cell 0 rfl; have cD1_3 := BD3.out.cell 1 rfl; have cC0_3 := BC3.out.cell 0 rfl; have cC1_3 := BC3.out.cell 1 rfl; have x3 := (H1.out _ G3'.out).1; have y3 := (H1.out _ G3'.out).2.1; have z3 := (H1.out _ G3'.out).2.2; have G4 := Lib.hid (G3'.out.alloc (.cells #[.string fn, .string fd, .string fs] 49)); have BF4 := Lib.hid (bq_snd w3 (.cells #[.int .i64 room, .slice (some ⟨a2, o2, none⟩) N c3] 24) 49 [.string fn, .string fd, .string fs]); have BC4 := Lib.hid (BC3.out.alloc (.cells #[.string fn, .string fd, .string fs] 49)); have BD4 := Lib.hid (BD3.out.alloc (.cells #[.string fn, .string fd, .string fs] 49)); have cD0_4 := BD4.out.cell 0 rfl; have cD1_4 := BD4.out.cell 1 rfl; have cC0_4 := BC4.out.cell 0 rfl; have cC1_4 := BC4.out.cell 1 rfl; have cF0_4 := BF4.out.cell 0 rfl; have cF1_4 := BF4.out.cell 1 rfl; have cF2_4 := BF4.out.cell 2 rfl; have y4 : ((w3.alloc (.cells #[.int .i64 room, .slice (some ⟨a2, o2, none⟩) N c3] 24)).alloc (.cells #[.string fn, .string fd, .string fs] 49)).cell? ⟨a2, o2 + j * 3 + 1, none⟩ = some (.string K) := ((((Bl.refl w3).alloc (.cells #[.int .i64 room, .slice (some ⟨a2, o2, none⟩) N c3] 24)).alloc (.cells #[.string fn, .string fd, .string fs] 49)).cell hb2).trans k2.2.1; have z4 : ((w3.alloc (.cells #[.int .i64 room, .slice (some ⟨a2, o2, none⟩) N c3] 24)).alloc (.cells #[.string fn, .string fd, .string fs] 49)).cell? ⟨a2, o2 + j * 3 + 2, none⟩ = some (.string K) := ((((Bl.refl w3).alloc (.cells #[.int .i64 room, .slice (some ⟨a2, o2, none⟩) N c3] 24)).alloc (.cells #[.string fn, .string fd, .string fs] 49)).cell hb2).trans k2.2.2; clear hb hv hy hx2 k2 hb2))
      go_quiet (fail)
      go_wp2
      go_ret
      exact ⟨rfl, G4.out.drewN _⟩
    · skip
      have qd : (κ : Int) < (nd : Int) := by omega
      have b3 : (0 : Int) ≤ (κ : Int) ∧ (κ : Int) < (nd : Int) := by omega
      have gD' : ∀ h' : κ < fd.size, ((fd[κ]'h').toNat : Int) = (x : Int) := fun h' => by rw [gD h']
      go_enter Try.func6, Try.ntmps6
      go_wp2_with (first
        | (go_at_call 9; (with_reducible refine (KS.out _).mono ?_); rintro e w1 ⟨rfl, hb⟩; have G1 := Lib.hid ((((Bl.refl w).alloc (.cells #[.int .i64 room, .slice (some ⟨a1, o1, none⟩) N c, vm, .int .i64 (j : Int), .int .i64 (κ : Int)] 47)).alloc (.cells #[.int .i64 room, .slice (some ⟨a1, o1, none⟩) N c] 24)).trans hb); have BD1 := Lib.hid (BD0.out.bl hb); have cD0_1 := BD1.out.cell 0 rfl; have cD1_1 := BD1.out.cell 1 rfl; clear hb)
        | (go_at_call 10; (with_reducible refine (KR.out _ G1.out).mono ?_); rintro e w2 ⟨rfl, hb⟩; have G2 := Lib.hid (G1.out.trans hb); have BD2 := Lib.hid (BD1.out.bl hb); have cD0_2 := BD2.out.cell 0 rfl; have cD1_2 := BD2.out.cell 1 rfl; clear hb)
        | (go_at_call 13; (with_reducible refine (KC.out _ G2.out).mono ?_); rintro e w3 ⟨v3, rfl, hv, hb⟩; obtain ⟨A3, c3, rfl, -, -, -, hy⟩ := fw_open hv HCA.out; obtain ⟨a2, o2, rfl, hb2, hx2⟩ := hy (by rw [HCA.out]; exact Nat.lt_of_le_of_lt (Nat.zero_le _) HJ.out); have k2 := hx2 j (by rw [HCA.out]; exact HJ.out); rw [HKJ.out] at k2; have G3 := Lib.hid (G2.out.trans hb); have BD3 := Lib.hid ((BD2.out.bl hb).alloc (.cells #[.int .i64 room, .slice (some ⟨a2, o2, none⟩) N c3] 24)); have BC3 := Lib.hid (Bq.new w3 24 [.int .i64 room, .slice (some ⟨a2, o2, none⟩) N c3]); have G3' := Lib.hid (G3.out.alloc (.cells #[.int .i64 room, .slice (some ⟨a2, o2, none⟩) N c3] 24)); have cD0_3 := BD3.out.cell 0 rfl; have cD1_3 := BD3.out.cell 1 rfl; have cC0_3 := BC3.out.cell 0 rfl; have cC1_3 := BC3.out.cell 1 rfl; have x3 := (H1.out _ G3'.out).1; have y3 := (H1.out _ G3'.out).2.1; have z3 := (H1.out _ G3'.out).2.2; have G4 := Lib.hid (G3'.out.alloc (.cells #[.string fn, .string fd, .string fs] 49)); have BF4 := Lib.hid (bq_snd w3 (.cells #[.int .i64 room, .slice (some ⟨a2, o2, none⟩) N c3] 24) 49 [.string fn, .string fd, .string fs]); have BC4 := Lib.hid (BC3.out.alloc (.cells #[.string fn, .string fd, .string fs] 49)); have BD4 := Lib.hid (BD3.out.alloc (.cells #[.string fn, .string fd, .string fs] 49)); have cD0_4 := BD4.out.cell 0 rfl; have cD1_4 := BD4.out.cell 1 rfl; have cC0_4 := BC4.out.cell 0 rfl; have cC1_4 := BC4.out.cell 1 rfl; have cF0_4 := BF4.out.cell 0 rfl; have cF1_4 := BF4.out.cell 1 rfl; have cF2_4 := BF4.out.cell 2 rfl; have y4 : ((w3.alloc (.cells #[.int .i64 room, .slice (some ⟨a2, o2, none⟩) N c3] 24)).alloc (.cells #[.string fn, .string fd, .string fs] 49)).cell? ⟨a2, o2 + j * 3 + 1, none⟩ = some (.string K) := ((((Bl.refl w3).alloc (.cells #[.int .i64 room, .slice (some ⟨a2, o2, none⟩) N c3] 24)).alloc (.cells #[.string fn, .string fd, .string fs] 49)).cell hb2).trans k2.2.1; have z4 : ((w3.alloc (.cells #[.int .i64 room, .slice (some ⟨a2, o2, none⟩) N c3] 24)).alloc (.cells #[.string fn, .string fd, .string fs] 49)).cell? ⟨a2, o2 + j * 3 + 2, none⟩ = some (.string K) := ((((Bl.refl w3).alloc (.cells #[.int .i64 room, .slice (some ⟨a2, o2, none⟩) N c3] 24)).alloc (.cells #[.string fn, .string fd, .string fs] 49)).cell hb2).trans k2.2.2; clear hb hv hy hx2 k2 hb2))
      go_quiet (fail)
      go_wp2
      go_ret
      exact ⟨rfl, G4.out.drewN _⟩
    · skip
      have qd : (κ : Int) < (nd : Int) := by omega
      have b3 : (0 : Int) ≤ (κ : Int) ∧ (κ : Int) < (nd : Int) := by omega
      have gD' : ∀ h' : κ < fd.size, ((fd[κ]'h').toNat : Int) = (y : Int) := fun h' => by rw [gD h']
      have qs : (κ : Int) < (nk : Int) := by omega
      have b4 : (0 : Int) ≤ (κ : Int) ∧ (κ : Int) < (nk : Int) := by omega
      have gS' : ∀ h' : κ < fs.size, ((fs[κ]'h').toNat : Int) = (x : Int) := fun h' => by rw [gS h']
      go_enter Try.func6, Try.ntmps6
      go_wp2_with (first
        | (go_at_call 9; (with_reducible refine (KS.out _).mono ?_); rintro e w1 ⟨rfl, hb⟩; have G1 := Lib.hid ((((Bl.refl w).alloc (.cells #[.int .i64 room, .slice (some ⟨a1, o1, none⟩) N c, vm, .int .i64 (j : Int), .int .i64 (κ : Int)] 47)).alloc (.cells #[.int .i64 room, .slice (some ⟨a1, o1, none⟩) N c] 24)).trans hb); have BD1 := Lib.hid (BD0.out.bl hb); have cD0_1 := BD1.out.cell 0 rfl; have cD1_1 := BD1.out.cell 1 rfl; clear hb)
        | (go_at_call 10; (with_reducible refine (KR.out _ G1.out).mono ?_); rintro e w2 ⟨rfl, hb⟩; have G2 := Lib.hid (G1.out.trans hb); have BD2 := Lib.hid (BD1.out.bl hb); have cD0_2 := BD2.out.cell 0 rfl; have cD1_2 := BD2.out.cell 1 rfl; clear hb)
        | (go_at_call 13; (with_reducible refine (KC.out _ G2.out).mono ?_); rintro e w3 ⟨v3, rfl, hv, hb⟩; obtain ⟨A3, c3, rfl, -, -, -, hy⟩ := fw_open hv HCA.out; obtain ⟨a2, o2, rfl, hb2, hx2⟩ := hy (by rw [HCA.out]; exact Nat.lt_of_le_of_lt (Nat.zero_le _) HJ.out); have k2 := hx2 j (by rw [HCA.out]; exact HJ.out); rw [HKJ.out] at k2; have G3 := Lib.hid (G2.out.trans hb); have BD3 := Lib.hid ((BD2.out.bl hb).alloc (.cells #[.int .i64 room, .slice (some ⟨a2, o2, none⟩) N c3] 24)); have BC3 := Lib.hid (Bq.new w3 24 [.int .i64 room, .slice (some ⟨a2, o2, none⟩) N c3]); have G3' := Lib.hid (G3.out.alloc (.cells #[.int .i64 room, .slice (some ⟨a2, o2, none⟩) N c3] 24)); have cD0_3 := BD3.out.cell 0 rfl; have cD1_3 := BD3.out.cell 1 rfl; have cC0_3 := BC3.out.cell 0 rfl; have cC1_3 := BC3.out.cell 1 rfl; have x3 := (H1.out _ G3'.out).1; have y3 := (H1.out _ G3'.out).2.1; have z3 := (H1.out _ G3'.out).2.2; have G4 := Lib.hid (G3'.out.alloc (.cells #[.string fn, .string fd, .string fs] 49)); have BF4 := Lib.hid (bq_snd w3 (.cells #[.int .i64 room, .slice (some ⟨a2, o2, none⟩) N c3] 24) 49 [.string fn, .string fd, .string fs]); have BC4 := Lib.hid (BC3.out.alloc (.cells #[.string fn, .string fd, .string fs] 49)); have BD4 := Lib.hid (BD3.out.alloc (.cells #[.string fn, .string fd, .string fs] 49)); have cD0_4 := BD4.out.cell 0 rfl; have cD1_4 := BD4.out.cell 1 rfl; have cC0_4 := BC4.out.cell 0 rfl; have cC1_4 := BC4.out.cell 1 rfl; have cF0_4 := BF4.out.cell 0 rfl; have cF1_4 := BF4.out.cell 1 rfl; have cF2_4 := BF4.out.cell 2 rfl; have y4 : ((w3.alloc (.cells #[.int .i64 room, .slice (some ⟨a2, o2, none⟩) N c3] 24)).alloc (.cells #[.string fn, .string fd, .string fs] 49)).cell? ⟨a2, o2 + j * 3 + 1, none⟩ = some (.string K) := ((((Bl.refl w3).alloc (.cells #[.int .i64 room, .slice (some ⟨a2, o2, none⟩) N c3] 24)).alloc (.cells #[.string fn, .string fd, .string fs] 49)).cell hb2).trans k2.2.1; have z4 : ((w3.alloc (.cells #[.int .i64 room, .slice (some ⟨a2, o2, none⟩) N c3] 24)).alloc (.cells #[.string fn, .string fd, .string fs] 49)).cell? ⟨a2, o2 + j * 3 + 2, none⟩ = some (.string K) := ((((Bl.refl w3).alloc (.cells #[.int .i64 room, .slice (some ⟨a2, o2, none⟩) N c3] 24)).alloc (.cells #[.string fn, .string fd, .string fs] 49)).cell hb2).trans k2.2.2; clear hb hv hy hx2 k2 hb2))
      go_quiet (fail)
      go_wp2
      go_ret
      exact ⟨rfl, G4.out.drewN _⟩
    · skip
      have qd : decide ((κ : Int) < (nd : Int)) = false := decide_eq_false (by omega)
      have qd' : decide (κ < nd) = false := decide_eq_false hd
      have qs : (κ : Int) < (nk : Int) := by omega
      have b4 : (0 : Int) ≤ (κ : Int) ∧ (κ : Int) < (nk : Int) := by omega
      have gS' : ∀ h' : κ < fs.size, ((fs[κ]'h').toNat : Int) = (x : Int) := fun h' => by rw [gS h']
      go_enter Try.func6, Try.ntmps6
      go_wp2_with (first
        | (go_at_call 9; (with_reducible refine (KS.out _).mono ?_); rintro e w1 ⟨rfl, hb⟩; have G1 := Lib.hid ((((Bl.refl w).alloc (.cells #[.int .i64 room, .slice (some ⟨a1, o1, none⟩) N c, vm, .int .i64 (j : Int), .int .i64 (κ : Int)] 47)).alloc (.cells #[.int .i64 room, .slice (some ⟨a1, o1, none⟩) N c] 24)).trans hb); have BD1 := Lib.hid (BD0.out.bl hb); have cD0_1 := BD1.out.cell 0 rfl; have cD1_1 := BD1.out.cell 1 rfl; clear hb)
        | (go_at_call 10; (with_reducible refine (KR.out _ G1.out).mono ?_); rintro e w2 ⟨rfl, hb⟩; have G2 := Lib.hid (G1.out.trans hb); have BD2 := Lib.hid (BD1.out.bl hb); have cD0_2 := BD2.out.cell 0 rfl; have cD1_2 := BD2.out.cell 1 rfl; clear hb)
        | (go_at_call 13; (with_reducible refine (KC.out _ G2.out).mono ?_); rintro e w3 ⟨v3, rfl, hv, hb⟩; obtain ⟨A3, c3, rfl, -, -, -, hy⟩ := fw_open hv HCA.out; obtain ⟨a2, o2, rfl, hb2, hx2⟩ := hy (by rw [HCA.out]; exact Nat.lt_of_le_of_lt (Nat.zero_le _) HJ.out); have k2 := hx2 j (by rw [HCA.out]; exact HJ.out); rw [HKJ.out] at k2; have G3 := Lib.hid (G2.out.trans hb); have BD3 := Lib.hid ((BD2.out.bl hb).alloc (.cells #[.int .i64 room, .slice (some ⟨a2, o2, none⟩) N c3] 24)); have BC3 := Lib.hid (Bq.new w3 24 [.int .i64 room, .slice (some ⟨a2, o2, none⟩) N c3]); have G3' := Lib.hid (G3.out.alloc (.cells #[.int .i64 room, .slice (some ⟨a2, o2, none⟩) N c3] 24)); have cD0_3 := BD3.out.cell 0 rfl; have cD1_3 := BD3.out.cell 1 rfl; have cC0_3 := BC3.out.cell 0 rfl; have cC1_3 := BC3.out.cell 1 rfl; have x3 := (H1.out _ G3'.out).1; have y3 := (H1.out _ G3'.out).2.1; have z3 := (H1.out _ G3'.out).2.2; have G4 := Lib.hid (G3'.out.alloc (.cells #[.string fn, .string fd, .string fs] 49)); have BF4 := Lib.hid (bq_snd w3 (.cells #[.int .i64 room, .slice (some ⟨a2, o2, none⟩) N c3] 24) 49 [.string fn, .string fd, .string fs]); have BC4 := Lib.hid (BC3.out.alloc (.cells #[.string fn, .string fd, .string fs] 49)); have BD4 := Lib.hid (BD3.out.alloc (.cells #[.string fn, .string fd, .string fs] 49)); have cD0_4 := BD4.out.cell 0 rfl; have cD1_4 := BD4.out.cell 1 rfl; have cC0_4 := BC4.out.cell 0 rfl; have cC1_4 := BC4.out.cell 1 rfl; have cF0_4 := BF4.out.cell 0 rfl; have cF1_4 := BF4.out.cell 1 rfl; have cF2_4 := BF4.out.cell 2 rfl; have y4 : ((w3.alloc (.cells #[.int .i64 room, .slice (some ⟨a2, o2, none⟩) N c3] 24)).alloc (.cells #[.string fn, .string fd, .string fs] 49)).cell? ⟨a2, o2 + j * 3 + 1, none⟩ = some (.string K) := ((((Bl.refl w3).alloc (.cells #[.int .i64 room, .slice (some ⟨a2, o2, none⟩) N c3] 24)).alloc (.cells #[.string fn, .string fd, .string fs] 49)).cell hb2).trans k2.2.1; have z4 : ((w3.alloc (.cells #[.int .i64 room, .slice (some ⟨a2, o2, none⟩) N c3] 24)).alloc (.cells #[.string fn, .string fd, .string fs] 49)).cell? ⟨a2, o2 + j * 3 + 2, none⟩ = some (.string K) := ((((Bl.refl w3).alloc (.cells #[.int .i64 room, .slice (some ⟨a2, o2, none⟩) N c3] 24)).alloc (.cells #[.string fn, .string fd, .string fs] 49)).cell hb2).trans k2.2.2; clear hb hv hy hx2 k2 hb2))
      go_quiet (fail)
      go_wp2
      go_ret
      exact ⟨rfl, G4.out.drewN _⟩
theorem diskEither_walk (room : Int) (u : Value) (l : List Fl) (vm : Value) (ms : List Nat) (i k : Int) (hb : -9223372036854775808 ≤ room ∧ room ≤ 9223372036854775807) (hz : Szs l) (ha : All 18446744073709551616 ms) (hi : -9223372036854775808 ≤ i ∧ i ≤ 9223372036854775807) (hk : -9223372036854775808 ≤ k ∧ k ≤ 9223372036854775807) (w : World) (hf : Fw w u l) (hr : Rw .u64 w vm ms) :
    Calls Try.prog 6 #[.agg #[.int .i64 room, u, vm, .int .i64 i, .int .i64 k]] w fun e w' => e = .returned (.bool true) ∧ Bl w w' := by
  cases hrt : rtB room l with
  | false => exact either_no room u l vm ms i k hz ha w hf hr hrt
  | true =>
    by_cases h0 : i < 0
    · exact either_out room u l vm ms i k hz ha w hf hr hrt (.inl h0)
    · by_cases h1 : (l.length : Int) ≤ i
      · exact either_out room u l vm ms i k hz ha w hf hr hrt (.inr ⟨by omega, h1⟩)
      · obtain ⟨j, rfl⟩ : ∃ j : Nat, i = (j : Int) := ⟨i.toNat, by omega⟩
        exact either_in room u l vm ms j k hz ha w hf hr hrt (by omega)
end Go.Proofs.Ytgbeflocojmhhaa
