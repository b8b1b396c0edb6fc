/-
  Package quot at any length that the form allows (2^44 words at most): a quotient's figures, one after the other, by the closure of Div. (Printed by gen/quz.py.)
-/
import Derived.Test.YtdoohlehglakfaaPk32
import Derived.Test.YtdoohlehglakfaaPk27
namespace Go.Proofs.Ytdoohlehglakfaa
open Go.RowKit Go.Shelf
set_option linter.unusedVariables false
set_option linter.unusedSimpArgs false
attribute [local go_sem] Oper.semAt_some

set_option maxRecDepth 100000 in
set_option maxHeartbeats 2000000 in
theorem back2_inZ (F : Fence) (d : Nat) (hf : F.fn 27) (hro : F.round = none) (hd : 1 ≤ d) (l n Ba g : Nat) (K : Nat → Prop) (hn : n ≤ 35184372088832) (J Jx : List (Pl n × Nat) → World → Prop)
    (hY : ∀ pre (x : Pl n × Nat) W, J pre W → pre.length < n → YieldAt F (d - 1) Try.prog l #[.int .i64 (x.1.1 : Int), .int .u64 (x.2 : Int)] W fun e W' =>
      (e = .returned (.bool true) ∧ J (pre ++ [x]) W' ∧ KpR K g n W W') ∨ (e = .returned (.bool false) ∧ Jx (pre ++ [x]) W'))
    (W : World) (hKa : K Ba) (hBa : W.cell? ⟨Ba, 0, none⟩ = some (.slice (some ⟨g, 0, none⟩) n n))
    (hc : ∃ m, m.length = n ∧ Bk .u64 33 W g m) (h0 : J [] W) :
    CallsIn F d Try.prog 27 #[.func (.yield l) #[] #[], .pointer (some ⟨Ba, 0, none⟩)] W fun e W' => (∃ v, e = .returned v) ∧
      ((∃ ys, ys.map (·.1.1) = down n n ∧ J ys W') ∨ (∃ pre, (∃ k, k ≤ n ∧ pre.map (·.1.1) = down n k) ∧ Jx pre W')) := by
  refine callsIn_of_wp Try.func27 rfl hf ?_ hro
  simp only [Try.ntmps27, List.size_toArray, List.length_cons, List.length_nil, Nat.reduceAdd, Nat.reduceSub, Array.replicate_succ, Array.replicate_zero, List.push_toArray, List.append_toArray, List.nil_append, List.cons_append]
  have HC := Lib.hid hc
  have HY := Lib.hid hY
  have HKa := Lib.hid hKa
  have HBa := Lib.hid hBa
  have hni : (n : Int) ≤ 35184372088832 := by omega
  clear hc hY hn hKa
  gi_wp2
  gi_loopw [3] (fun i wr => ∃ (z : Int) (j : Nat) (pre : List (Pl n × Nat)), i = .int .i64 z ∧ z = (j : Int) - 1 ∧ j ≤ n ∧ Hid (pre.map (·.1.1) = down n (n - j)) ∧ J pre wr ∧ Hid (KpR K g n W wr)) (fun i _ => (intOf i + 1).toNat)
  case atStart => exact ⟨_, n, [], rfl, rfl, Nat.le_refl _, by show _ = _; rw [Nat.sub_self]; rfl, h0, KpR.refl _ _ _ _⟩
  case round =>
    obtain ⟨z, j, pre, rfl, hz, hj, hpre, hJs, hkp⟩ := hrel
    have hbx := (hkp.out.1.cell (p := ⟨Ba, 0, none⟩) HKa.out).trans HBa.out
    clear hBa
    by_cases h0 : j = 0
    · subst h0
      obtain rfl : z = -1 := by omega
      clear hz
      gi_wp2
      go_end0
      exact ⟨⟨_, rfl⟩, .inl ⟨_, by have := hpre.out; rwa [Nat.sub_zero] at this, hJs⟩⟩
    · obtain ⟨k, rfl⟩ : ∃ k, j = k + 1 := ⟨j - 1, by omega⟩
      obtain rfl : z = (k : Int) := by omega
      have hlt : k < n := hj
      have e1 : n - 1 - (n - (k + 1)) = k := by omega
      obtain ⟨m, hm, hbm⟩ := hkp.out.2 HC.out
      have hcx := hbm.cell k (by omega)
      obtain ⟨y, hy2⟩ : ∃ y, m[k]'(by omega) = y := ⟨_, rfl⟩
      rw [hy2] at hcx
      have hplen : pre.length < n := by
        have := congrArg List.length hpre.out
        rw [List.length_map, down_length] at this
        omega
      obtain ⟨fn, tmps, assign, body, hy, hR⟩ := HY.out pre (⟨k, hlt⟩, y) wr hJs hplen
      dsimp only at hy hR
      have EU : Hid ((pre ++ [((⟨k, hlt⟩ : Pl n), y)]).map (·.1.1) = down n (n - k)) := by
        have h1 := hpre.out
        show List.map _ (pre ++ [_]) = _
        rw [List.map_append, h1, show n - k = (n - (k + 1)) + 1 by omega]
        simp [down, List.range_succ, e1]
      have hlt' := Lib.hid hlt
      have b1 : (0 : Int) ≤ (k : Int) ∧ (k : Int) < (n : Int) := by omega
      have b2 : decide ((0 : Int) ≤ (k : Int)) = true := decide_eq_true (by omega)
      clear hz h0 hj e1 hm hbm hy2 hplen
      gi_wp2
      refine hR.mono ?_
      rintro e W3 (⟨rfl, hJ3, hk3⟩ | ⟨rfl, hJx3⟩)
      · gi_wp2
        go_roundw
        case rel => exact ⟨_, k, _, rfl, rfl, Nat.le_of_lt hlt'.out, EU.out, hJ3, hkp.out.trans hk3⟩
        case measure => simp [intOf] <;> omega
      · gi_wp2
        refine bodyPost_ret (results_none rfl _ _ _) rfl ?_
        exact ⟨⟨_, rfl⟩, .inr ⟨_, ⟨_, Nat.sub_le _ _, EU.out⟩, hJx3⟩⟩

theorem back2_stopsZ (F : Fence) (d : Nat) (hf : F.fn 27) (hro : F.round = none) (hd : 1 ≤ d) (n Ba g : Nat) (K : Nat → Prop) (hn : n ≤ 35184372088832)
    (w : World) (hKa : K Ba) (hBa : w.cell? ⟨Ba, 0, none⟩ = some (.slice (some ⟨g, 0, none⟩) n n)) (hK : ∀ j, K j → j < w.heap.size) (hc : ∃ m, m.length = n ∧ Bk .u64 33 w g m) :
    SeqStopsK F d Try.prog 27 #[.pointer (some ⟨Ba, 0, none⟩)] (fun x : Pl n × Nat => #[.int .i64 (x.1.1 : Int), .int .u64 (x.2 : Int)]) (KpR K g n)
      (fun ys => ys.map (·.1.1) = down n n) (fun pre => ∃ k, k ≤ n ∧ pre.map (·.1.1) = down n k) n w := fun l J Jx W hW hJ hJx hY h0 =>
  back2_inZ F d hf hro hd l n Ba g K hn J Jx hY W hKa ((hW.cell (p := ⟨Ba, 0, none⟩) (hK _ hKa)).trans hBa)
    (by obtain ⟨m, h1, h2⟩ := hc; exact ⟨m, h1, (hW.block g h2.lt).trans h2⟩) h0

set_option maxRecDepth 100000 in
set_option maxHeartbeats 4000000 in
theorem pquotD_anyZ (p1 p2 p3 n g : Nat) (hn : n < 17592186044416) (w : World) (hg : g < w.heap.size) (J : List (Nat × Nat) → World → Prop)
    (hJs : ∀ tr W W', J tr W → Below w.heap.size W W' → J tr W') (hJc : ∀ tr W, J tr W → ∃ a t x, W.heap[g]? = some (.cells a t x))
    (hcall : ∀ tr i W, i < n → J tr W → w.heap.size ≤ W.heap.size → Calls Try.prog 14 #[.int .i64 (i : Int), .pointer (some ⟨p1, 0, none⟩), .pointer (some ⟨p2, 0, none⟩), .pointer (some ⟨p3, 0, none⟩)] W (QuCall J tr i g W)) (h0 : J [] w) :
    Calls Try.prog 13 #[.int .i64 (n : Int), DF p1 p2 p3] w (QuEnd J w n) := by
  refine (callsIn_wide (n := 6)).1 ?_
  obtain ⟨i0, hi, hz0, hz1, hz2⟩ := info_parts infoW
  have hmk := fun W => run_mkZ (P := Try.prog) .u64 22 33 i0 Try.underlying22 hi hz0 hz1 (by omega) n (by omega) W
  have hni : (n : Int) ≤ 17592186044416 := by omega
  unfold DF
  refine callsIn_of_wp_marks Try.func13 rfl trivial ?_ rfl
  simp only [Try.ntmps13, List.size_toArray, List.length_cons, List.length_nil, Nat.reduceAdd, Nat.reduceSub, Array.replicate_succ, Array.replicate_zero, List.push_toArray, List.append_toArray, List.nil_append, List.cons_append]
  gi_wp2_with (refine ⟨trivial, ?_⟩; gi_at_call 22; refine (callsIn_wide.2 (pbackward_any _ _ _ _)).mono ?_; rintro e w1 ⟨rfl, rfl⟩)
  obtain ⟨W0, hW0⟩ : ∃ W0, (((w.alloc (.cells #[.func (.func 14) #[] #[.pointer (some ⟨p1, 0, none⟩), .pointer (some ⟨p2, 0, none⟩), .pointer (some ⟨p3, 0, none⟩)]] 38)).alloc (.cells (vs .u64 (List.replicate n 0)).toArray 33)).alloc
      (.cells #[.slice (some ⟨w.heap.size + 1, 0, none⟩) n n] 22)).alloc (.cells #[.slice (some ⟨w.heap.size + 1, 0, none⟩) n n] 22) = W0 := ⟨_, rfl⟩
  have hsz0 : W0.heap.size = w.heap.size + 1 + 1 + 1 + 1 := by rw [← hW0]; simp only [World.size_alloc]
  have b0 : Boxed W0 w.heap.size 38 (.func (.func 14) #[] #[.pointer (some ⟨p1, 0, none⟩), .pointer (some ⟨p2, 0, none⟩), .pointer (some ⟨p3, 0, none⟩)]) := by
    have := Boxed.new w 38 (.func (.func 14) #[] #[.pointer (some ⟨p1, 0, none⟩), .pointer (some ⟨p2, 0, none⟩), .pointer (some ⟨p3, 0, none⟩)])
    rw [← hW0]; exact ((this.alloc _).alloc _).alloc _
  have b1 : Bk .u64 33 W0 (w.heap.size + 1) (List.replicate n 0) := by
    have := Bk.made .u64 33 (w.alloc (.cells #[.func (.func 14) #[] #[.pointer (some ⟨p1, 0, none⟩), .pointer (some ⟨p2, 0, none⟩), .pointer (some ⟨p3, 0, none⟩)]] 38)) n
    rw [World.size_alloc] at this
    rw [← hW0]; exact this.bl (((Bl.refl _).alloc _).alloc _)
  have b2 : Boxed W0 (w.heap.size + 1 + 1) 22 (.slice (some ⟨w.heap.size + 1, 0, none⟩) n n) := by
    have := Boxed.new ((w.alloc (.cells #[.func (.func 14) #[] #[.pointer (some ⟨p1, 0, none⟩), .pointer (some ⟨p2, 0, none⟩), .pointer (some ⟨p3, 0, none⟩)]] 38)).alloc (.cells (vs .u64 (List.replicate n 0)).toArray 33)) 22 (.slice (some ⟨w.heap.size + 1, 0, none⟩) n n)
    rw [World.size_alloc, World.size_alloc] at this
    rw [← hW0]; exact this.alloc _
  have b3 : Boxed W0 (w.heap.size + 1 + 1 + 1) 22 (.slice (some ⟨w.heap.size + 1, 0, none⟩) n n) := by
    have := Boxed.new (((w.alloc (.cells #[.func (.func 14) #[] #[.pointer (some ⟨p1, 0, none⟩), .pointer (some ⟨p2, 0, none⟩), .pointer (some ⟨p3, 0, none⟩)]] 38)).alloc (.cells (vs .u64 (List.replicate n 0)).toArray 33)).alloc
      (.cells #[.slice (some ⟨w.heap.size + 1, 0, none⟩) n n] 22)) 22 (.slice (some ⟨w.heap.size + 1, 0, none⟩) n n)
    rw [World.size_alloc, World.size_alloc, World.size_alloc] at this
    rw [← hW0]; exact this
  have hB0 : Bl w W0 := by rw [← hW0]; exact ((((Bl.refl w).alloc _).alloc _).alloc _).alloc _
  rw [hW0]
  have hI0 : QuInv w n (.func (.func 14) #[] #[.pointer (some ⟨p1, 0, none⟩), .pointer (some ⟨p2, 0, none⟩), .pointer (some ⟨p3, 0, none⟩)]) J [] W0 :=
    ⟨[], rfl, fun i hi => by simp [qrow], hJs _ _ _ h0 hB0, b0, b1, b2⟩
  have hKs : ∀ j, j = w.heap.size + 1 + 1 + 1 → j < W0.heap.size := fun j hj => by rw [hsz0]; omega
  clear hW0 b0 b2 hmk hi hz0 hz1 hz2 h0
  refine wpIn_rangeFunc_ownF (α := Pl n × Nat) rfl (by decide) (gf := 27) (lb := #[.pointer (some ⟨w.heap.size + 1 + 1 + 1, 0, none⟩)]) rfl trivial (enters_of Try.func27 (by kernel_rfl) rfl)
    (back2_stopsZ Fence.wide (6 - 1) trivial rfl (by decide) n (w.heap.size + 1 + 1 + 1) (w.heap.size + 1) (fun j => j = w.heap.size + 1 + 1 + 1) (by omega) W0 rfl b3.cell hKs ⟨_, by simp, b1⟩)
    KpR.trans (KpR.put hKs) (Below.refl _ _) (fun _ => rfl)
    (QuInv w n (.func (.func 14) #[] #[.pointer (some ⟨p1, 0, none⟩), .pointer (some ⟨p2, 0, none⟩), .pointer (some ⟨p3, 0, none⟩)]) J) (fun _ _ _ => False) (qinv_own w n _ J hJs _ (by omega)) (fun _ _ _ _ _ hs _ _ => hs) hI0
    (fun x => { tmps := #[.int .i64 (n : Int), .func (.func 14) #[] #[.pointer (some ⟨p1, 0, none⟩), .pointer (some ⟨p2, 0, none⟩), .pointer (some ⟨p3, 0, none⟩)], undef, .pointer (some ⟨w.heap.size, 0, none⟩), .slice none 0 0, .pointer (some ⟨w.heap.size + 1 + 1, 0, none⟩), .int .i64 (x.1.1 : Int), .int .i64 (n : Int),
          .slice (some ⟨w.heap.size + 1, 0, none⟩) n n, .slice (some ⟨w.heap.size + 1, 0, none⟩) n n, .func (.func 27) #[] #[.pointer (some ⟨w.heap.size + 1 + 1 + 1, 0, none⟩)], .int .i64 (x.1.1 : Int), .int .u64 (x.2 : Int), undef, undef, undef, undef, undef, undef, undef, undef], defers := [] }) ?assign ?body ?done ?stop
  case assign =>
    intro l x W K hK
    gi_wp2
    exact hK
  case body =>
    rintro lp pre ⟨⟨i, hi⟩, z⟩ W hI _
    have hstep := qinv_step w n g hg (.func (.func 14) #[] #[.pointer (some ⟨p1, 0, none⟩), .pointer (some ⟨p2, 0, none⟩), .pointer (some ⟨p3, 0, none⟩)]) J hJs hJc pre ⟨i, hi⟩ z W
    obtain ⟨tr, htr, hall, hJ, b0, bk, b2⟩ := id hI
    have hbig : w.heap.size ≤ W.heap.size := by have := bk.lt; omega
    have HS := Lib.hid (hstep tr htr hall hJ b0 bk b2)
    have KC := hcall tr i W.drew hi (hJs _ _ _ hJ ((Below.refl _ W).drew)) hbig
    have hc0 := b0.cell
    have hc2 := b2.cell
    have hcz : ∃ y, W.cell? ⟨w.heap.size + 1, i, none⟩ = some y := ⟨_, bk.cell i (by rw [qrow_len]; exact hi)⟩
    obtain ⟨y, hcy⟩ := hcz
    have hne : g ≠ w.heap.size ∧ g ≠ w.heap.size + 1 ∧ g ≠ w.heap.size + 1 + 1 := by omega
    have KM : Calls Try.prog 14 #[.int .i64 (i : Int), .pointer (some ⟨p1, 0, none⟩), .pointer (some ⟨p2, 0, none⟩), .pointer (some ⟨p3, 0, none⟩)] W.drew
        fun e w' => ∃ q : Nat, e = .returned (.int .u64 (q : Int)) ∧ (w'.cell? ⟨w.heap.size + 1 + 1, 0, none⟩ = some (.slice (some ⟨w.heap.size + 1, 0, none⟩) n n) ∧ w'.cell? ⟨w.heap.size, 0, none⟩ = some (.func (.func 14) #[] #[.pointer (some ⟨p1, 0, none⟩), .pointer (some ⟨p2, 0, none⟩), .pointer (some ⟨p3, 0, none⟩)]) ∧ w'.cell? ⟨w.heap.size + 1, i, none⟩ = some y ∧ w'.frozen? ⟨w.heap.size + 1, i, none⟩ = false) ∧
          Hid (q < 18446744073709551616 ∧ J (tr ++ [(i, q)]) w' ∧ Oth g W w') := KC.mono fun e w' h => by
      obtain ⟨q, rfl, hq, hJ', ho⟩ := h
      refine ⟨q, rfl, ⟨(oth_cell ho (Ne.symm hne.2.2)).trans hc2, (oth_cell ho (Ne.symm hne.1)).trans hc0, (oth_cell ho (Ne.symm hne.2.1)).trans hcy, (oth_frozen ho (Ne.symm hne.2.1)).trans (bk.free i)⟩, hq, hJ', ho⟩
    have HK := Lib.hid KM
    have n1 : (0 : Int) ≤ (i : Int) ∧ (i : Int) < (n : Int) := by omega
    have hmx : Try.prog.follows .mixedOrders = true := by kernel_rfl
    show Code.wpIn _ _ _ _ _ { tmps := #[.int .i64 (n : Int), .func (.func 14) #[] #[.pointer (some ⟨p1, 0, none⟩), .pointer (some ⟨p2, 0, none⟩), .pointer (some ⟨p3, 0, none⟩)], undef, .pointer (some ⟨w.heap.size, 0, none⟩), .slice none 0 0, .pointer (some ⟨w.heap.size + 1 + 1, 0, none⟩), .int .i64 (i : Int), .int .i64 (n : Int),
          .slice (some ⟨w.heap.size + 1, 0, none⟩) n n, .slice (some ⟨w.heap.size + 1, 0, none⟩) n n, .func (.func 27) #[] #[.pointer (some ⟨w.heap.size + 1 + 1 + 1, 0, none⟩)], .int .i64 (i : Int), .int .u64 (z : Int), undef, undef, undef, undef, undef, undef, undef, undef], defers := [] } W
    clear KC KM b0 bk b2 hstep hI hall hJ htr hI0 hcall hJs hJc hbig hne hcy
    gi_wp2
    refine region_inRound (fun W' => W'.cell? ⟨w.heap.size + 1 + 1, 0, none⟩ = some (.slice (some ⟨w.heap.size + 1, 0, none⟩) n n) ∧ W'.cell? ⟨w.heap.size, 0, none⟩ = some (.func (.func 14) #[] #[.pointer (some ⟨p1, 0, none⟩), .pointer (some ⟨p2, 0, none⟩), .pointer (some ⟨p3, 0, none⟩)])) hmx (noDef_spec (by kernel_rfl)) (fun ⟨_, _, h⟩ => h) ?_
    have hS : W.drew.cell? ⟨w.heap.size + 1 + 1, 0, none⟩ = some (.slice (some ⟨w.heap.size + 1, 0, none⟩) n n) ∧ W.drew.cell? ⟨w.heap.size, 0, none⟩ = some (.func (.func 14) #[] #[.pointer (some ⟨p1, 0, none⟩), .pointer (some ⟨p2, 0, none⟩), .pointer (some ⟨p3, 0, none⟩)]) := ⟨hc2, hc0⟩
    refine wpAnyH_take (i := 1) (v := .int .i64 (i : Int)) rfl (by kernel_rfl) (by kernel_rfl) (by kernel_rfl) (fun _ _ _ h => h) (Or.inl ⟨by rfl, ?_⟩) hS ?_
    · intro w hSw
      obtain ⟨hSa, hSb⟩ := hSw
      go_simp
    try simp only [Act.put, List.setIfInBounds_toArray, List.set_cons_zero, List.set_cons_succ]
    refine wpAnyH_take (i := 3) (v := .int .i64 (i : Int)) rfl (by kernel_rfl) (by kernel_rfl) (by kernel_rfl) (fun _ _ _ h => h) (Or.inl ⟨by rfl, ?_⟩) hS ?_
    · intro w hSw
      obtain ⟨hSa, hSb⟩ := hSw
      go_simp
    try simp only [Act.put, List.setIfInBounds_toArray, List.set_cons_zero, List.set_cons_succ]
    refine wpAnyH_take (i := 0) (v := .slice (some ⟨w.heap.size + 1, 0, none⟩) n n) rfl (by kernel_rfl) (by kernel_rfl) (by kernel_rfl) (fun _ _ _ h => h) (Or.inl ⟨by rfl, ?_⟩) hS ?_
    · intro w hSw
      obtain ⟨hSa, hSb⟩ := hSw
      go_simp
    try simp only [Act.put, List.setIfInBounds_toArray, List.set_cons_zero, List.set_cons_succ]
    refine wpAnyH_take (i := 2) (v := .func (.func 14) #[] #[.pointer (some ⟨p1, 0, none⟩), .pointer (some ⟨p2, 0, none⟩), .pointer (some ⟨p3, 0, none⟩)]) rfl (by kernel_rfl) (by kernel_rfl) (by kernel_rfl) (fun _ _ _ h => h) (Or.inl ⟨by rfl, ?_⟩) hS ?_
    · intro w hSw
      obtain ⟨hSa, hSb⟩ := hSw
      go_simp
    try simp only [Act.put, List.setIfInBounds_toArray, List.set_cons_zero, List.set_cons_succ]
    refine wpAnyH_ready (rs := [4]) (by kernel_rfl) (by simp) (AllReadyH.cons rfl (fun K hK => ?_) AllReadyH.nil)
    go_simp
    refine HK.out.mono ?_
    rintro e w' ⟨q, rfl, ⟨g1, g2, g3, g4⟩, g5⟩
    refine hK.out _ _ ⟨g1, g2⟩ (fun _ => ?_)
    clear hK K hS
    try simp only [Act.put, List.setIfInBounds_toArray, List.set_cons_zero, List.set_cons_succ]
    refine wpAnyH_take (i := 5) (v := .pointer (some ⟨w.heap.size + 1, i, none⟩)) rfl (by kernel_rfl) (by kernel_rfl) (by kernel_rfl) (fun _ _ _ h => h) (Or.inl ⟨by rfl, ?_⟩) ⟨g1, g2⟩ ?_
    · intro w hSw
      go_simp
    try simp only [Act.put, List.setIfInBounds_toArray, List.set_cons_zero, List.set_cons_succ]
    refine wpAnyH_ready (rs := [6]) (by kernel_rfl) (by simp) (AllReadyH.cons rfl (fun K hK => ?_) AllReadyH.nil)
    go_simp
    refine hK.out _ _ ⟨(World.cell?_setCell_far _ _ _ _ (by simp)).trans g1, (World.cell?_setCell_far _ _ _ _ (by simp)).trans g2⟩ (fun _ => ?_)
    clear hK K
    refine wpAnyH_done (by kernel_rfl) ?_ _
    exact HS.out q w' g5.out.1 g5.out.2.1 g5.out.2.2
  case done =>
    rintro D xs W hD hS hI hK
    obtain ⟨tr, htr, hall, hJ, b0', bk, b2'⟩ := hI
    rw [hS] at htr
    have hRow := bk.rw (n := n) (by rw [qrow_len]) (by unfold maxLen; omega)
    have hbig : w.heap.size ≤ W.heap.size := by have := bk.lt; omega
    have KT := Lib.hid (pNormZ W _ _ (NuZ.mk hRow hall (by rw [qrow_len]; have := hn; omega)))
    have hc2 := b2'.cell
    have HJ := Lib.hid hJ
    have HD := Lib.hid hD
    have HK := Lib.hid hK
    have HT := Lib.hid htr
    have HA := Lib.hid hall
    have HBG := Lib.hid hbig
    clear b0' bk b2' hRow hS hB0 hI0 hcall hJ hbig htr hall
    gi_wp2_with (refine ⟨trivial, ?_⟩; gi_at_call 11; refine (callsIn_wide.2 KT.out).mono ?_; rintro e w2 ⟨v2, rfl, hv2, hb2⟩)
    have hK2 : w2.heap[D]? = some (.deferred (some [])) := (hb2.block D (Array.getElem?_eq_some_iff.1 HK.out).1).trans HK.out
    have hDw : w.heap.size ≤ D := by have := HD.out; omega
    refine ⟨by simp, .inl ⟨_, _, rfl, run_takeDeferred hK2, ?_⟩⟩
    refine ⟨_, results_tmp rfl _ _ _, v2, tr, rfl, HT.out, HA.out, rw_put hv2 _ hK2 rfl, ?_, ?_⟩
    · exact hJs _ _ _ (hJs _ _ _ HJ.out (Below.mono hb2 HBG.out)) (belowK_b (w := w) (Nat.le_refl _) w2 D _ _ hDw hK2 rfl rfl)
    · exact Nat.le_trans HBG.out (Nat.le_trans hb2.size (by simp))
  case stop =>
    rintro D c pre W _ _ h _
    exact h.elim

end Go.Proofs.Ytdoohlehglakfaa
