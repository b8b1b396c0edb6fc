/-
  Package quot: quotient, over the closure quot.Div$1: figure after figure, each asked of the closure.
-/
import Derived.Test.YtdoohlehglakfaaPk26
import Derived.Test.YtdoohlehglakfaaPk16
import Derived.Test.YtdoohlehglakfaaPk14
namespace Go.Proofs.Ytdoohlehglakfaa
open Go.RowKit Go.Shelf
set_option linter.unusedVariables false
set_option linter.unusedSimpArgs false
attribute [local go_sem] Oper.semAt_some

/-- What the closure answers at place i: one more figure; nothing but block g turns. -/
def QuCall (J : List (Nat × Nat) → World → Prop) (tr : List (Nat × Nat)) (i g : Nat) (W : World) (e : Ending) (W' : World) : Prop := ∃ q : Nat, e = .returned (.int .u64 (q : Int)) ∧ q < 18446744073709551616 ∧ J (tr ++ [(i, q)]) W' ∧ Oth g W W'
/-- The row that the figures make, in whatever order they come. -/
def qrow (n : Nat) (tr : List (Nat × Nat)) : List Nat := tr.foldl (fun l (x : Nat × Nat) => l.set x.1 x.2) (List.replicate n 0)
theorem qrow_snoc (n : Nat) (tr : List (Nat × Nat)) (i q : Nat) : qrow n (tr ++ [(i, q)]) = (qrow n tr).set i q := by simp [qrow, List.foldl_append]
theorem qrow_len (n : Nat) (tr : List (Nat × Nat)) : (qrow n tr).length = n := by
  have : ∀ (tr : List (Nat × Nat)) (l : List Nat), (tr.foldl (fun l (x : Nat × Nat) => l.set x.1 x.2) l).length = l.length := by
    intro tr
    induction tr with
    | nil => intro l; rfl
    | cons x tr ih => intro l; rw [List.foldl_cons, ih]; simp
  rw [qrow, this]; simp
/-- What quotient answers: the figures' number. -/
def QuEnd (J : List (Nat × Nat) → World → Prop) (w : World) (n : Nat) (e : Ending) (W' : World) : Prop := ∃ v tr, e = .returned v ∧ tr.map (·.1) = down n n ∧ All 18446744073709551616 (qrow n tr) ∧ Rw .u64 W' v (dig 18446744073709551616 (val 18446744073709551616 (qrow n tr))) ∧ J tr W' ∧ w.heap.size ≤ W'.heap.size
theorem oth_cell {g : Nat} {W w : World} (h : Oth g W w) {a : Addr} (hne : a.block ≠ g) : w.cell? a = W.cell? a := by simp [World.cell?, h.2 _ hne]
theorem oth_frozen {g : Nat} {W w : World} (h : Oth g W w) {a : Addr} (hne : a.block ≠ g) : w.frozen? a = W.frozen? a := by simp [World.frozen?, h.2 _ hne]

/-- Between two rounds. -/
def QuInv (w : World) (n : Nat) (f : Value) (J : List (Nat × Nat) → World → Prop) (pre : List (Pl n × Nat)) (W : World) : Prop :=
  ∃ tr, tr.map (·.1) = pre.map (·.1.1) ∧ All 18446744073709551616 (qrow n tr) ∧ J tr W ∧ Boxed W w.heap.size 38 f ∧ Bk .u64 33 W (w.heap.size + 1) (qrow n tr) ∧ Boxed W (w.heap.size + 1 + 1) 22 (.slice (some ⟨w.heap.size + 1, 0, none⟩) n n)
theorem qinv_own (w : World) (n : Nat) (f : Value) (J : List (Nat × Nat) → World → Prop) (hJs : ∀ tr W W', J tr W → Below w.heap.size W W' → J tr W') (B : Nat) (hB : w.heap.size ≤ B) : OwnFrom B (QuInv w n f J) := by
  intro s W W' row hs hg hr
  obtain ⟨tr, h1, h2, h3, h4, h5, h6⟩ := hs
  have hr' : ∀ r, row = some r → ∃ o : Obj, W.heap[r]? = some o ∧ o.isCells = false := fun r e => (hr r e).2
  have hbig : w.heap.size ≤ W.heap.size := by have := h5.lt; omega
  exact ⟨tr, h1, h2, hJs _ _ _ h3 ((Below.refl _ W).grown hg hbig (fun k e => Nat.le_trans hB (hr k e).1)), cells_kept h4 hg hr', cells_kept h5 hg hr', cells_kept h6 hg hr'⟩
theorem qinv_step (w : World) (n g : Nat) (hgw : g < w.heap.size) (f : Value) (J : List (Nat × Nat) → World → Prop) (hJs : ∀ tr W W', J tr W → Below w.heap.size W W' → J tr W') (hJc : ∀ tr W, J tr W → ∃ a t x, W.heap[g]? = some (.cells a t x)) (pre : List (Pl n × Nat)) (x : Pl n) (z : Nat) (W : World) (tr : List (Nat × Nat))
    (htr : tr.map (·.1) = pre.map (·.1.1)) (hall : All 18446744073709551616 (qrow n tr)) (hJ : J tr W) (b0 : Boxed W w.heap.size 38 f) (bk : Bk .u64 33 W (w.heap.size + 1) (qrow n tr)) (b2 : Boxed W (w.heap.size + 1 + 1) 22 (.slice (some ⟨w.heap.size + 1, 0, none⟩) n n))
    (q : Nat) (w' : World) (hq : q < 18446744073709551616) (hJ' : J (tr ++ [(x.1, q)]) w') (ho : Oth g W w') :
    KeepsOthers W (w'.setCell ⟨w.heap.size + 1, x.1, none⟩ (.int .u64 (q : Int))) ∧ KpR (fun j => j = w.heap.size + 1 + 1 + 1) (w.heap.size + 1) n W (w'.setCell ⟨w.heap.size + 1, x.1, none⟩ (.int .u64 (q : Int))) ∧
      QuInv w n f J (pre ++ [(x, z)]) (w'.setCell ⟨w.heap.size + 1, x.1, none⟩ (.int .u64 (q : Int))) := by
  have bk1 : Bk .u64 33 w' (w.heap.size + 1) (qrow n tr) := (ho.2 _ (by omega)).trans bk
  have bk2 := bk1.set x.1 q (by rw [qrow_len]; exact x.2)
  rw [← qrow_snoc] at bk2
  have hko : KeepsOthers W w' := ⟨by rw [ho.1]; exact Nat.le_refl _, fun k o hk hc => by
    by_cases e : k = g
    · subst e
      obtain ⟨a, t, y, hy⟩ := hJc tr W hJ
      rw [hk] at hy
      cases hy
      cases hc
    · exact (ho.2 k e).trans hk⟩
  have hB' : Below w.heap.size w' (w'.setCell ⟨w.heap.size + 1, x.1, none⟩ (.int .u64 (q : Int))) := (Below.refl _ w').setCell (by show w.heap.size ≤ w.heap.size + 1; omega) _
  refine ⟨hko.trans (KeepsOthers.setCell _ _ _), ⟨fun j hj => ?_, fun _ => ⟨_, qrow_len _ _, bk2⟩⟩, tr ++ [(x.1, q)], ?_, ?_, hJs _ _ _ hJ' hB', ?_, bk2, ?_⟩
  · rw [setCell_heap_other _ _ _ _ _ (by omega)]
    exact ho.2 j (by omega)
  · rw [List.map_append, List.map_append, htr]; rfl
  · rw [qrow_snoc]; exact all_set hall _ _ hq
  · exact boxed_other ((ho.2 _ (by omega)).trans b0) _ _ _ (by omega)
  · exact boxed_other ((ho.2 _ (by omega)).trans b2) _ _ _ (by omega)

/-- The closure. -/
def DF (p1 p2 p3 : Nat) : Value := .func (.func 14) #[] #[.pointer (some ⟨p1, 0, none⟩), .pointer (some ⟨p2, 0, none⟩), .pointer (some ⟨p3, 0, none⟩)]
set_option maxRecDepth 100000 in
set_option maxHeartbeats 4000000 in
theorem pquotD_any (p1 p2 p3 n g : Nat) (hn : n < 1048576) (w : World) (hg : g < w.heap.size) (J : List (Nat × Nat) → World → Prop)
    (hJs : ∀ tr W W', J tr W → Below w.heap.size W W' → J tr W') (hJc : ∀ tr W, J tr W → ∃ a t x, W.heap[g]? = some (.cells a t x))
    (hcall : ∀ tr i W, i < n → J tr W → w.heap.size ≤ W.heap.size → Calls Try.prog 14 #[.int .i64 (i : Int), .pointer (some ⟨p1, 0, none⟩), .pointer (some ⟨p2, 0, none⟩), .pointer (some ⟨p3, 0, none⟩)] W (QuCall J tr i g W)) (h0 : J [] w) :
    Calls Try.prog 13 #[.int .i64 (n : Int), DF p1 p2 p3] w (QuEnd J w n) := by
  refine (callsIn_wide (n := 6)).1 ?_
  obtain ⟨i0, hi, hz0, hz1, hz2⟩ := info_parts infoW
  have hmk := fun W => run_mk (P := Try.prog) .u64 22 33 i0 Try.underlying22 hi hz0 hz1 (by omega) n (by omega) W
  have hni : (n : Int) ≤ 1048576 := by omega
  unfold DF
  refine callsIn_of_wp_marks Try.func13 rfl trivial ?_ rfl
  simp only [Try.ntmps13, List.size_toArray, List.length_cons, List.length_nil, Nat.reduceAdd, Nat.reduceSub, Array.replicate_succ, Array.replicate_zero, List.push_toArray, List.append_toArray, List.nil_append, List.cons_append]
  gi_wp2_with (refine ⟨trivial, ?_⟩; gi_at_call 22; refine (callsIn_wide.2 (pbackward_any _ _ _ _)).mono ?_; rintro e w1 ⟨rfl, rfl⟩)
  obtain ⟨W0, hW0⟩ : ∃ W0, (((w.alloc (.cells #[.func (.func 14) #[] #[.pointer (some ⟨p1, 0, none⟩), .pointer (some ⟨p2, 0, none⟩), .pointer (some ⟨p3, 0, none⟩)]] 38)).alloc (.cells (vs .u64 (List.replicate n 0)).toArray 33)).alloc
      (.cells #[.slice (some ⟨w.heap.size + 1, 0, none⟩) n n] 22)).alloc (.cells #[.slice (some ⟨w.heap.size + 1, 0, none⟩) n n] 22) = W0 := ⟨_, rfl⟩
  have hsz0 : W0.heap.size = w.heap.size + 1 + 1 + 1 + 1 := by rw [← hW0]; simp only [World.size_alloc]
  have b0 : Boxed W0 w.heap.size 38 (.func (.func 14) #[] #[.pointer (some ⟨p1, 0, none⟩), .pointer (some ⟨p2, 0, none⟩), .pointer (some ⟨p3, 0, none⟩)]) := by
    have := Boxed.new w 38 (.func (.func 14) #[] #[.pointer (some ⟨p1, 0, none⟩), .pointer (some ⟨p2, 0, none⟩), .pointer (some ⟨p3, 0, none⟩)])
    rw [← hW0]; exact ((this.alloc _).alloc _).alloc _
  have b1 : Bk .u64 33 W0 (w.heap.size + 1) (List.replicate n 0) := by
    have := Bk.made .u64 33 (w.alloc (.cells #[.func (.func 14) #[] #[.pointer (some ⟨p1, 0, none⟩), .pointer (some ⟨p2, 0, none⟩), .pointer (some ⟨p3, 0, none⟩)]] 38)) n
    rw [World.size_alloc] at this
    rw [← hW0]; exact this.bl (((Bl.refl _).alloc _).alloc _)
  have b2 : Boxed W0 (w.heap.size + 1 + 1) 22 (.slice (some ⟨w.heap.size + 1, 0, none⟩) n n) := by
    have := Boxed.new ((w.alloc (.cells #[.func (.func 14) #[] #[.pointer (some ⟨p1, 0, none⟩), .pointer (some ⟨p2, 0, none⟩), .pointer (some ⟨p3, 0, none⟩)]] 38)).alloc (.cells (vs .u64 (List.replicate n 0)).toArray 33)) 22 (.slice (some ⟨w.heap.size + 1, 0, none⟩) n n)
    rw [World.size_alloc, World.size_alloc] at this
    rw [← hW0]; exact this.alloc _
  have b3 : Boxed W0 (w.heap.size + 1 + 1 + 1) 22 (.slice (some ⟨w.heap.size + 1, 0, none⟩) n n) := by
    have := Boxed.new (((w.alloc (.cells #[.func (.func 14) #[] #[.pointer (some ⟨p1, 0, none⟩), .pointer (some ⟨p2, 0, none⟩), .pointer (some ⟨p3, 0, none⟩)]] 38)).alloc (.cells (vs .u64 (List.replicate n 0)).toArray 33)).alloc
      (.cells #[.slice (some ⟨w.heap.size + 1, 0, none⟩) n n] 22)) 22 (.slice (some ⟨w.heap.size + 1, 0, none⟩) n n)
    rw [World.size_alloc, World.size_alloc, World.size_alloc] at this
    rw [← hW0]; exact this
  have hB0 : Bl w W0 := by rw [← hW0]; exact ((((Bl.refl w).alloc _).alloc _).alloc _).alloc _
  rw [hW0]
  have hI0 : QuInv w n (.func (.func 14) #[] #[.pointer (some ⟨p1, 0, none⟩), .pointer (some ⟨p2, 0, none⟩), .pointer (some ⟨p3, 0, none⟩)]) J [] W0 :=
    ⟨[], rfl, fun i hi => by simp [qrow], hJs _ _ _ h0 hB0, b0, b1, b2⟩
  have hKs : ∀ j, j = w.heap.size + 1 + 1 + 1 → j < W0.heap.size := fun j hj => by rw [hsz0]; omega
  clear hW0 b0 b2 hmk hi hz0 hz1 hz2 h0
  refine wpIn_rangeFunc_ownF (α := Pl n × Nat) rfl (by decide) (gf := 27) (lb := #[.pointer (some ⟨w.heap.size + 1 + 1 + 1, 0, none⟩)]) rfl trivial (enters_of Try.func27 (by kernel_rfl) rfl)
    (back2_stops Fence.wide (6 - 1) trivial rfl (by decide) n (w.heap.size + 1 + 1 + 1) (w.heap.size + 1) (fun j => j = w.heap.size + 1 + 1 + 1) (by omega) W0 rfl b3.cell hKs ⟨_, by simp, b1⟩)
    KpR.trans (KpR.put hKs) (Below.refl _ _) (fun _ => rfl)
    (QuInv w n (.func (.func 14) #[] #[.pointer (some ⟨p1, 0, none⟩), .pointer (some ⟨p2, 0, none⟩), .pointer (some ⟨p3, 0, none⟩)]) J) (fun _ _ _ => False) (qinv_own w n _ J hJs _ (by omega)) (fun _ _ _ _ _ hs _ _ => hs) hI0
    (fun x => { tmps := #[.int .i64 (n : Int), .func (.func 14) #[] #[.pointer (some ⟨p1, 0, none⟩), .pointer (some ⟨p2, 0, none⟩), .pointer (some ⟨p3, 0, none⟩)], undef, .pointer (some ⟨w.heap.size, 0, none⟩), .slice none 0 0, .pointer (some ⟨w.heap.size + 1 + 1, 0, none⟩), .int .i64 (x.1.1 : Int), .int .i64 (n : Int),
          .slice (some ⟨w.heap.size + 1, 0, none⟩) n n, .slice (some ⟨w.heap.size + 1, 0, none⟩) n n, .func (.func 27) #[] #[.pointer (some ⟨w.heap.size + 1 + 1 + 1, 0, none⟩)], .int .i64 (x.1.1 : Int), .int .u64 (x.2 : Int), undef, undef, undef, undef, undef, undef, undef, undef], defers := [] }) ?assign ?body ?done ?stop
  case assign =>
    intro l x W K hK
    gi_wp2
    exact hK
  case body =>
    rintro lp pre ⟨⟨i, hi⟩, z⟩ W hI _
    have hstep := qinv_step w n g hg (.func (.func 14) #[] #[.pointer (some ⟨p1, 0, none⟩), .pointer (some ⟨p2, 0, none⟩), .pointer (some ⟨p3, 0, none⟩)]) J hJs hJc pre ⟨i, hi⟩ z W
    obtain ⟨tr, htr, hall, hJ, b0, bk, b2⟩ := id hI
    have hbig : w.heap.size ≤ W.heap.size := by have := bk.lt; omega
    have HS := Lib.hid (hstep tr htr hall hJ b0 bk b2)
    have KC := hcall tr i W.drew hi (hJs _ _ _ hJ ((Below.refl _ W).drew)) hbig
    have hc0 := b0.cell
    have hc2 := b2.cell
    have hcz : ∃ y, W.cell? ⟨w.heap.size + 1, i, none⟩ = some y := ⟨_, bk.cell i (by rw [qrow_len]; exact hi)⟩
    obtain ⟨y, hcy⟩ := hcz
    have hne : g ≠ w.heap.size ∧ g ≠ w.heap.size + 1 ∧ g ≠ w.heap.size + 1 + 1 := by omega
    have KM : Calls Try.prog 14 #[.int .i64 (i : Int), .pointer (some ⟨p1, 0, none⟩), .pointer (some ⟨p2, 0, none⟩), .pointer (some ⟨p3, 0, none⟩)] W.drew
        fun e w' => ∃ q : Nat, e = .returned (.int .u64 (q : Int)) ∧ (w'.cell? ⟨w.heap.size + 1 + 1, 0, none⟩ = some (.slice (some ⟨w.heap.size + 1, 0, none⟩) n n) ∧ w'.cell? ⟨w.heap.size, 0, none⟩ = some (.func (.func 14) #[] #[.pointer (some ⟨p1, 0, none⟩), .pointer (some ⟨p2, 0, none⟩), .pointer (some ⟨p3, 0, none⟩)]) ∧ w'.cell? ⟨w.heap.size + 1, i, none⟩ = some y ∧ w'.frozen? ⟨w.heap.size + 1, i, none⟩ = false) ∧
          Hid (q < 18446744073709551616 ∧ J (tr ++ [(i, q)]) w' ∧ Oth g W w') := KC.mono fun e w' h => by
      obtain ⟨q, rfl, hq, hJ', ho⟩ := h
      refine ⟨q, rfl, ⟨(oth_cell ho (Ne.symm hne.2.2)).trans hc2, (oth_cell ho (Ne.symm hne.1)).trans hc0, (oth_cell ho (Ne.symm hne.2.1)).trans hcy, (oth_frozen ho (Ne.symm hne.2.1)).trans (bk.free i)⟩, hq, hJ', ho⟩
    have HK := Lib.hid KM
    have n1 : (0 : Int) ≤ (i : Int) ∧ (i : Int) < (n : Int) := by omega
    have hmx : Try.prog.follows .mixedOrders = true := by kernel_rfl
    show Code.wpIn _ _ _ _ _ { tmps := #[.int .i64 (n : Int), .func (.func 14) #[] #[.pointer (some ⟨p1, 0, none⟩), .pointer (some ⟨p2, 0, none⟩), .pointer (some ⟨p3, 0, none⟩)], undef, .pointer (some ⟨w.heap.size, 0, none⟩), .slice none 0 0, .pointer (some ⟨w.heap.size + 1 + 1, 0, none⟩), .int .i64 (i : Int), .int .i64 (n : Int),
          .slice (some ⟨w.heap.size + 1, 0, none⟩) n n, .slice (some ⟨w.heap.size + 1, 0, none⟩) n n, .func (.func 27) #[] #[.pointer (some ⟨w.heap.size + 1 + 1 + 1, 0, none⟩)], .int .i64 (i : Int), .int .u64 (z : Int), undef, undef, undef, undef, undef, undef, undef, undef], defers := [] } W
    clear KC KM b0 bk b2 hstep hI hall hJ htr hI0 hcall hJs hJc hbig hne hcy
    gi_wp2
    refine region_inRound (fun W' => W'.cell? ⟨w.heap.size + 1 + 1, 0, none⟩ = some (.slice (some ⟨w.heap.size + 1, 0, none⟩) n n) ∧ W'.cell? ⟨w.heap.size, 0, none⟩ = some (.func (.func 14) #[] #[.pointer (some ⟨p1, 0, none⟩), .pointer (some ⟨p2, 0, none⟩), .pointer (some ⟨p3, 0, none⟩)])) hmx (noDef_spec (by kernel_rfl)) (fun ⟨_, _, h⟩ => h) ?_
    have hS : W.drew.cell? ⟨w.heap.size + 1 + 1, 0, none⟩ = some (.slice (some ⟨w.heap.size + 1, 0, none⟩) n n) ∧ W.drew.cell? ⟨w.heap.size, 0, none⟩ = some (.func (.func 14) #[] #[.pointer (some ⟨p1, 0, none⟩), .pointer (some ⟨p2, 0, none⟩), .pointer (some ⟨p3, 0, none⟩)]) := ⟨hc2, hc0⟩
    refine wpAnyH_take (i := 1) (v := .int .i64 (i : Int)) rfl (by kernel_rfl) (by kernel_rfl) (by kernel_rfl) (fun _ _ _ h => h) (Or.inl ⟨by rfl, ?_⟩) hS ?_
    · intro w hSw
      obtain ⟨hSa, hSb⟩ := hSw
      go_simp
    try simp only [Act.put, List.setIfInBounds_toArray, List.set_cons_zero, List.set_cons_succ]
    refine wpAnyH_take (i := 3) (v := .int .i64 (i : Int)) rfl (by kernel_rfl) (by kernel_rfl) (by kernel_rfl) (fun _ _ _ h => h) (Or.inl ⟨by rfl, ?_⟩) hS ?_
    · intro w hSw
      obtain ⟨hSa, hSb⟩ := hSw
      go_simp
    try simp only [Act.put, List.setIfInBounds_toArray, List.set_cons_zero, List.set_cons_succ]
    refine wpAnyH_take (i := 0) (v := .slice (some ⟨w.heap.size + 1, 0, none⟩) n n) rfl (by kernel_rfl) (by kernel_rfl) (by kernel_rfl) (fun _ _ _ h => h) (Or.inl ⟨by rfl, ?_⟩) hS ?_
    · intro w hSw
      obtain ⟨hSa, hSb⟩ := hSw
      go_simp
    try simp only [Act.put, List.setIfInBounds_toArray, List.set_cons_zero, List.set_cons_succ]
    refine wpAnyH_take (i := 2) (v := .func (.func 14) #[] #[.pointer (some ⟨p1, 0, none⟩), .pointer (some ⟨p2, 0, none⟩), .pointer (some ⟨p3, 0, none⟩)]) rfl (by kernel_rfl) (by kernel_rfl) (by kernel_rfl) (fun _ _ _ h => h) (Or.inl ⟨by rfl, ?_⟩) hS ?_
    · intro w hSw
      obtain ⟨hSa, hSb⟩ := hSw
      go_simp
    try simp only [Act.put, List.setIfInBounds_toArray, List.set_cons_zero, List.set_cons_succ]
    refine wpAnyH_ready (rs := [4]) (by kernel_rfl) (by simp) (AllReadyH.cons rfl (fun K hK => ?_) AllReadyH.nil)
    go_simp
    refine HK.out.mono ?_
    rintro e w' ⟨q, rfl, ⟨g1, g2, g3, g4⟩, g5⟩
    refine hK.out _ _ ⟨g1, g2⟩ (fun _ => ?_)
    clear hK K hS
    try simp only [Act.put, List.setIfInBounds_toArray, List.set_cons_zero, List.set_cons_succ]
    refine wpAnyH_take (i := 5) (v := .pointer (some ⟨w.heap.size + 1, i, none⟩)) rfl (by kernel_rfl) (by kernel_rfl) (by kernel_rfl) (fun _ _ _ h => h) (Or.inl ⟨by rfl, ?_⟩) ⟨g1, g2⟩ ?_
    · intro w hSw
      go_simp
    try simp only [Act.put, List.setIfInBounds_toArray, List.set_cons_zero, List.set_cons_succ]
    refine wpAnyH_ready (rs := [6]) (by kernel_rfl) (by simp) (AllReadyH.cons rfl (fun K hK => ?_) AllReadyH.nil)
    go_simp
    refine hK.out _ _ ⟨(World.cell?_setCell_far _ _ _ _ (by simp)).trans g1, (World.cell?_setCell_far _ _ _ _ (by simp)).trans g2⟩ (fun _ => ?_)
    clear hK K
    refine wpAnyH_done (by kernel_rfl) ?_ _
    exact HS.out q w' g5.out.1 g5.out.2.1 g5.out.2.2
  case done =>
    rintro D xs W hD hS hI hK
    obtain ⟨tr, htr, hall, hJ, b0', bk, b2'⟩ := hI
    rw [hS] at htr
    have hRow := bk.rw (n := n) (by rw [qrow_len]) (by unfold maxLen; omega)
    have hbig : w.heap.size ≤ W.heap.size := by have := bk.lt; omega
    have KT := Lib.hid (pNorm W _ _ (Nu.mk hRow hall (by rw [qrow_len]; have := hn; omega)))
    have hc2 := b2'.cell
    have HJ := Lib.hid hJ
    have HD := Lib.hid hD
    have HK := Lib.hid hK
    have HT := Lib.hid htr
    have HA := Lib.hid hall
    have HBG := Lib.hid hbig
    clear b0' bk b2' hRow hS hB0 hI0 hcall hJ hbig htr hall
    gi_wp2_with (refine ⟨trivial, ?_⟩; gi_at_call 11; refine (callsIn_wide.2 KT.out).mono ?_; rintro e w2 ⟨v2, rfl, hv2, hb2⟩)
    have hK2 : w2.heap[D]? = some (.deferred (some [])) := (hb2.block D (Array.getElem?_eq_some_iff.1 HK.out).1).trans HK.out
    have hDw : w.heap.size ≤ D := by have := HD.out; omega
    refine ⟨by simp, .inl ⟨_, _, rfl, run_takeDeferred hK2, ?_⟩⟩
    refine ⟨_, results_tmp rfl _ _ _, v2, tr, rfl, HT.out, HA.out, rw_put hv2 _ hK2 rfl, ?_, ?_⟩
    · exact hJs _ _ _ (hJs _ _ _ HJ.out (Below.mono hb2 HBG.out)) (belowK_b (w := w) (Nat.le_refl _) w2 D _ _ hDw hK2 rfl rfl)
    · exact Nat.le_trans HBG.out (Nat.le_trans hb2.size (by simp))
  case stop =>
    rintro D c pre W _ _ h _
    exact h.elim
end Go.Proofs.Ytdoohlehglakfaa
