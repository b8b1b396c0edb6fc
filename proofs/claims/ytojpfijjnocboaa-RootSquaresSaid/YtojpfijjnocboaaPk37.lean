/-
  Package nat: Cmp.
-/
import Derived.Test.YtojpfijjnocboaaPk22
import Derived.Deep.RegionWith
namespace Go.Proofs.Ytojpfijjnocboaa
open Go.RowKit Go.Shelf
set_option linter.unusedVariables false
set_option linter.unusedSimpArgs false
attribute [local go_sem] Oper.semAt_some

theorem ab_down {B X Y n : Nat} (h0 : Ab B X Y n) : ∀ j, j ≤ n → (∀ i ∈ down n j, X / B ^ i % B = Y / B ^ i % B) → Ab B X Y (n - j) := by
  intro j
  induction j with
  | zero => intro _ _; exact h0
  | succ j ih =>
    intro hj h
    have h1 := ih (by omega) (fun i hi => h i (by
      simp only [down, List.mem_map, List.mem_range] at hi ⊢
      obtain ⟨a, ha, rfl⟩ := hi
      exact ⟨a, by omega, rfl⟩))
    refine ab_step (i := n - (j + 1)) (by rw [show n - (j + 1) + 1 = n - j by omega]; exact h1) (h _ ?_)
    simp only [down, List.mem_map, List.mem_range]
    exact ⟨j, by omega, by omega⟩
theorem cmp_len {X Y : Nat} (h : (dig 18446744073709551616 X).length ≠ (dig 18446744073709551616 Y).length) : cmpi (dig 18446744073709551616 X).length (dig 18446744073709551616 Y).length = cmpi X Y := by
  rcases Nat.lt_or_gt_of_ne h with h | h
  · rw [cmpi_lt h, cmpi_lt (len_lt (by decide) h)]
  · rw [cmpi_gt h, cmpi_gt (len_lt (by decide) h)]
theorem cmp_at {X Y n j : Nat} (hX : (dig 18446744073709551616 X).length = n) (hY : (dig 18446744073709551616 Y).length = n) (hj : j < n) (h : ∀ i ∈ down n j, X / 18446744073709551616 ^ i % 18446744073709551616 = Y / 18446744073709551616 ^ i % 18446744073709551616)
    (x y : Nat) (hx : X / 18446744073709551616 ^ (n - 1 - j) % 18446744073709551616 = x) (hy : Y / 18446744073709551616 ^ (n - 1 - j) % 18446744073709551616 = y) (hne : x ≠ y) : cmpi x y = cmpi X Y := by
  have hA := ab_down (ab_start (by decide) hX hY) j (by omega) h
  rw [show n - j = n - 1 - j + 1 by omega] at hA
  rcases Nat.lt_or_gt_of_ne hne with h1 | h1
  · rw [cmpi_lt h1, cmpi_lt (ab_lt hA (by rw [hx, hy]; exact h1))]
  · rw [cmpi_gt h1, cmpi_gt (ab_lt (x := Y) (y := X) hA.symm (by rw [hx, hy]; exact h1))]
theorem cmp_all {X Y n : Nat} (hX : (dig 18446744073709551616 X).length = n) (hY : (dig 18446744073709551616 Y).length = n) (h : ∀ i ∈ down n n, X / 18446744073709551616 ^ i % 18446744073709551616 = Y / 18446744073709551616 ^ i % 18446744073709551616) : cmpi X Y = 0 := by
  have hA := ab_down (ab_start (by decide) hX hY) n (Nat.le_refl _) h
  rw [Nat.sub_self] at hA
  exact cmpi_eq (ab_end hA)

theorem src_ne {k : IntKind} {w : World} {l : List Nat} {b : Nat} {t : TypeId} {x : Value} {ad : Addr} (hl : 0 < l.length) (hx : ∀ i (h : i < l.length), w.cell? (ad.add i) = some (.int k (l[i] : Int))) (hb : Boxed w b t x) (hne : ∀ j : Int, x ≠ .int k j) : ad.block ≠ b := by
  intro e
  have hh := hx 0 hl
  have hbl := blk_add ad 0
  unfold Boxed at hb
  unfold World.cell? at hh
  rw [hbl, e, hb] at hh
  have h2 : ∀ o : Nat, (#[x] : Array Value)[o]? = some (.int k (l[0] : Int)) → False := by
    intro o ho
    cases o with
    | zero => exact hne _ (by simpa using ho)
    | succ o => simp at ho
  dsimp only at hh
  split at hh
  · cases hh
  · exact h2 _ hh
theorem rw_box {k : IntKind} {w : World} {v : Value} {l : List Nat} {b : Nat} {t : TypeId} {A : Option Addr} {n c : Nat} (h : Rw k w v l) (hb : Boxed w b t (.slice A n c)) (u : Value) : Rw k (w.setCell ⟨b, 0, none⟩ u) v l := by
  obtain ⟨A', c', hv, h1, h2, h3, h4⟩ := h
  refine ⟨A', c', hv, h1, h2, h3, fun hl => ?_⟩
  obtain ⟨ad, ha, hlt, hx⟩ := h4 hl
  refine ⟨ad, ha, by simpa [World.setCell] using hlt, fun i hi => ?_⟩
  have hne := src_ne hl hx hb (fun j => by simp)
  rw [World.cell?_setCell_far _ _ _ _ (by rw [blk_add]; exact fun e => hne e.symm)]
  exact hx i hi
theorem rw_slice_len {k : IntKind} {w : World} {A : Option Addr} {n c : Nat} {l : List Nat} (h : Rw k w (.slice A n c) l) : n = l.length ∧ n ≤ c ∧ c ≤ maxLen ∧ Src k w A l := by
  obtain ⟨A', c', e, h1, h2, _, h4⟩ := h
  cases e
  exact ⟨rfl, h1, h2, h4⟩

/-- Between two rounds of Cmp: all words so far are the same. -/
def CInv (W : World) (C : Option Addr) (n cc X Y : Nat) (pre : List (Pl n)) (w : World) : Prop :=
  ((Boxed w W.heap.size 22 (.slice C n cc) ∧ Boxed w (W.heap.size + 1) 3 (.int .i64 0) ∧ Rw .u64 w (.slice C n cc) (dig 18446744073709551616 Y)) ∧ Bl W w) ∧
    ∀ i ∈ pre.map (·.1), X / 18446744073709551616 ^ i % 18446744073709551616 = Y / 18446744073709551616 ^ i % 18446744073709551616
theorem cinv_own (W : World) (C : Option Addr) (n cc X Y B : Nat) (hB : W.heap.size ≤ B) : OwnFrom B (CInv W C n cc X Y) :=
  OwnFrom.and (OwnFrom.and (Own.from (fun s A B row hs hg hr => ⟨cells_kept hs.1 hg hr, cells_kept hs.2.1 hg hr, rw_kept hs.2.2 hg hr⟩) _) (ownFrom_below (Nat.le_refl _) hB)) (fun _ _ _ _ hs _ _ => hs)
/-- A round has found two that differ. -/
def CEnd (W : World) (n X Y : Nat) (c : Code) (pre : List (Pl n)) (w : World) : Prop :=
  c = .ret ∧ ∃ (r : Int) (ps : List Nat) (i x y : Nat), (Boxed w (W.heap.size + 1) 3 (.int .i64 r) ∧ Bl W w) ∧ pre.map (·.1) = ps ++ [i] ∧ (∀ j ∈ ps, X / 18446744073709551616 ^ j % 18446744073709551616 = Y / 18446744073709551616 ^ j % 18446744073709551616) ∧
    X / 18446744073709551616 ^ i % 18446744073709551616 = x ∧ Y / 18446744073709551616 ^ i % 18446744073709551616 = y ∧ x ≠ y ∧ r = cmpi x y
theorem cend_own (W : World) (n X Y B : Nat) (hB : W.heap.size ≤ B) (c : Code) : OwnFrom B (CEnd W n X Y c) := by
  rintro s w w' row ⟨hc, r, ps, i, x, y, ⟨h1, h2⟩, h3⟩ hg hr
  exact ⟨hc, r, ps, i, x, y, ⟨cells_kept h1 hg (fun r e => (hr r e).2), ownFrom_below (β := Unit) (Nat.le_refl _) hB () w w' row h2 hg hr⟩, h3⟩
/-- What a round of Cmp keeps. -/
def CK (W : World) (j : Nat) : Prop := j < W.heap.size + 1 ∨ j = W.heap.size + 1 + 1
theorem down_last {n k : Nat} {ps : List Nat} {i : Nat} (h : ps ++ [i] = down n k) : ps = down n ps.length ∧ i = n - 1 - ps.length ∧ k = ps.length + 1 := by
  have hk : k = ps.length + 1 := by have := congrArg List.length h; rw [down_length] at this; simp at this; omega
  subst hk
  have e : down n (ps.length + 1) = down n ps.length ++ [n - 1 - ps.length] := by simp [down, List.range_succ]
  rw [e] at h
  obtain ⟨h1, h2⟩ := List.append_inj h (by rw [down_length])
  exact ⟨h1, by simpa using h2, rfl⟩
theorem dig_word (X i n : Nat) (hn : (dig 18446744073709551616 X).length = n) (hi : i < n) : (dig 18446744073709551616 X)[i]?.getD 0 = X / 18446744073709551616 ^ i % 18446744073709551616 := by
  rw [← dig_get 18446744073709551616 (by decide) X i (by omega)]
  simp [hn, hi]

set_option maxRecDepth 100000 in
set_option maxHeartbeats 4000000 in
theorem pCmp : CCmp := by
  intro W v u X Y hv hu
  refine (callsIn_wide (n := 6)).1 ?_
  have h1 := nu_len hv
  have h2 := nu_len hu
  have KT := Lib.hid (fun W' (h : Bl W W') => trimN W' v X (hv.bl h))
  have KU := Lib.hid (fun W' (h : Bl W W') => trimN W' u Y (hu.bl h))
  obtain ⟨lu, hu1, _⟩ := hu
  obtain ⟨B, d, rfl, _⟩ := hu1
  refine callsIn_of_wp_marks Try.func29 rfl trivial ?_ rfl
  simp only [Try.ntmps29, List.size_toArray, List.length_cons, List.length_nil, Nat.reduceAdd, Nat.reduceSub, Array.replicate_succ, Array.replicate_zero, List.push_toArray, List.append_toArray, List.nil_append, List.cons_append]
  gi_wp2
  obtain ⟨W1, hW1⟩ : ∃ W1, (W.alloc (.cells #[.slice B lu.length d] 22)).alloc (.cells #[.int .i64 0] 3) = W1 := ⟨_, rfl⟩
  have b0 : Boxed W1 W.heap.size 22 (.slice B lu.length d) := by rw [← hW1]; exact (Boxed.new W _ _).alloc _
  have b1 : Boxed W1 (W.heap.size + 1) 3 (.int .i64 0) := by
    have := Boxed.new (W.alloc (.cells #[.slice B lu.length d] 22)) 3 (.int .i64 0)
    rw [World.size_alloc] at this
    rw [← hW1]; exact this
  have hB1 : Bl W W1 := by rw [← hW1]; exact ((Bl.refl W).alloc _).alloc _
  have hB2 : Bl W W1.drew := hB1.drew
  have hs1 : W1.heap.size = W.heap.size + 1 + 1 := by rw [← hW1]; simp only [World.size_alloc]
  rw [hW1]
  have hc0 := b0.cell
  have hf0 := b0.frozen
  have KT1 := Lib.hid (KT.out _ hB2)
  have KU1 := Lib.hid (KU.out _ hB2)
  clear hW1 KT KU
  refine wpIn_wide.2 ?_
  refine Code.wp_mono (Q := fun e a w' => match e with
    | .normal => ∃ A la ca C lc cc, Hid (Rw .u64 W1.drew (.slice A la ca) (dig 18446744073709551616 X)) ∧ Hid (Rw .u64 W1.drew (.slice C lc cc) (dig 18446744073709551616 Y)) ∧
    a = { tmps := #[.slice A la ca, .slice B lu.length d, undef, .pointer (some ⟨W.heap.size, 0, none⟩), .pointer (some ⟨W.heap.size + 1, 0, none⟩), undef, undef, v, .slice A la ca, .slice B lu.length d, .slice C lc cc, undef, undef, undef, undef, undef, undef, undef, undef, undef, undef, undef, undef, undef, undef, undef, undef, undef, undef, undef, undef, undef, undef, undef, undef, undef, undef], defers := [] } ∧
    w' = W1.drew.setCell ⟨W.heap.size, 0, none⟩ (.slice C lc cc)
    | _ => False) ?_ ?_
  rotate_left
  · go_region_with (first
      | (go_at_call 42; (with_reducible refine KT1.out.mono ?_); rintro e w' ⟨v2, rfl, rfl, hv2⟩; have HV := Lib.hid hv2; obtain ⟨A, c, rfl, _⟩ := hv2)
      | (go_at_call 42; (with_reducible refine KU1.out.mono ?_); rintro e w' ⟨u2, rfl, rfl, hu2⟩; have HU := Lib.hid hu2; obtain ⟨C, e, rfl, _⟩ := hu2))
    all_goals exact ⟨_, _, _, _, _, _, HV, HU, rfl, rfl⟩
  intro e a w' h
  cases e <;> first | exact h.elim | skip
  obtain ⟨A, la, ca, C, lc, cc, HV, HU, rfl, rfl⟩ := h
  dsimp only
  have b0 : Boxed W1.drew W.heap.size 22 (.slice B lu.length d) := b0
  have b1 : Boxed W1.drew (W.heap.size + 1) 3 (.int .i64 0) := b1
  have HX := Lib.hid (rw_box HV.out b0 (.slice C lc cc))
  have HY := Lib.hid (rw_box HU.out b0 (.slice C lc cc))
  have b1' := boxed_other b1 W.heap.size 0 (.slice C lc cc) (by omega)
  have b0' := b0.set (.slice C lc cc)
  have hB3 : Bl W (W1.drew.setCell ⟨W.heap.size, 0, none⟩ (.slice C lc cc)) := hB2.setCell (p := ⟨W.heap.size, 0, none⟩) (Nat.le_refl _) _
  have hs2 : (W1.drew.setCell ⟨W.heap.size, 0, none⟩ (.slice C lc cc)).heap.size = W.heap.size + 1 + 1 := by show (W1.heap.modify _ _).size = _; rw [Array.size_modify]; exact hs1
  obtain ⟨W2, hW2⟩ : ∃ W2, W1.drew.setCell ⟨W.heap.size, 0, none⟩ (.slice C lc cc) = W2 := ⟨_, rfl⟩
  rw [hW2] at HX HY b1' b0' hB3 hs2 ⊢
  obtain ⟨e1, -, hcm, hxs⟩ := rw_slice_len HX.out
  obtain ⟨e2, -, hcm2, hys⟩ := rw_slice_len HY.out
  have hc0' := b0'.cell
  have hc1' := b1'.cell
  have hf1' := b1'.frozen
  obtain ⟨n, hn⟩ : ∃ n, (dig 18446744073709551616 X).length = n := ⟨_, rfl⟩
  obtain ⟨m, hm⟩ : ∃ n, (dig 18446744073709551616 Y).length = n := ⟨_, rfl⟩
  have HN := Lib.hid hn
  have HM := Lib.hid hm
  rw [hn] at e1 h1
  rw [hm] at e2 h2
  subst e1 e2
  clear KT1 KU1 hc0 hf0 b0 b1 hs1 hB1 hB2 hW2 hn hm HV HU hv
  by_cases hnm : la = lc
  · subst hnm
    have n1 : ((la : Int) != (la : Int)) = false := by simp
    gi_wp2_with (refine ⟨trivial, ?_⟩; gi_at_call 49; refine (callsIn_wide.2 (pbackward_any _ _ _ _)).mono ?_; rintro e w2 ⟨rfl, rfl⟩)
    have b2 := Boxed.new W2 22 (.slice A la ca)
    have hsz3 : (W2.alloc (.cells #[.slice A la ca] 22)).heap.size = W.heap.size + 1 + 1 + 1 := by rw [World.size_alloc, hs2]
    have hb23 : Bl W2 (W2.alloc (.cells #[.slice A la ca] 22)) := (Bl.refl W2).alloc _
    have b03 := b0'.alloc (.cells #[.slice A la ca] 22)
    have b13 := b1'.alloc (.cells #[.slice A la ca] 22)
    obtain ⟨W3, hW3⟩ : ∃ W3, W2.alloc (.cells #[.slice A la ca] 22) = W3 := ⟨_, rfl⟩
    rw [hW3] at b2 hsz3 hb23 b03 b13 ⊢
    rw [hs2] at b2
    have hKs : ∀ j, CK W j → j < W3.heap.size := fun j hj => by rw [hsz3]; unfold CK at hj; omega
    have hI0 : CInv W C la cc X Y [] W3 := ⟨⟨⟨b03, b13, HY.out.bl hb23⟩, hB3.trans hb23⟩, fun i hi => by simp at hi⟩
    have HB13 := Lib.hid b13
    have HS2 := Lib.hid hs2
    clear hW3 b0' b1' hB3 hc0' hc1' hf1' hs2 b03 b13
    refine wpIn_rangeFunc_ownF (α := Pl la) rfl (by decide) (gf := 68) (lb := #[.pointer (some ⟨W.heap.size + 1 + 1, 0, none⟩)]) rfl trivial (enters_of Try.func68 (by kernel_rfl) rfl)
      (back_stops Fence.wide (6 - 1) trivial rfl (by decide) la ca (W.heap.size + 1 + 1) (CK W) A (dig 18446744073709551616 X) HN.out (by omega) W3 (.inr rfl) b2.cell hKs
        (fun i h => by
          obtain ⟨ad, g1, g2, g3⟩ := hxs (by omega)
          have g5 := src_ne (by omega) (fun i h => (hb23.cell (p := ad.add i) (by rw [blk_add]; exact g2)).trans (g3 i h)) HB13.out (fun j => by simp)
          have g6 := HS2.out
          have g7 : ad.block < W.heap.size + 1 := by omega
          exact ⟨ad, g1, .inl g7, (hb23.cell (p := ad.add i) (by rw [blk_add]; exact g2)).trans (g3 i h)⟩))
      KpB.trans (KpB.put hKs) (Below.refl _ _) (fun _ => rfl)
      (CInv W C la cc X Y) (CEnd W la X Y) (cinv_own W C la cc X Y _ (by omega)) (cend_own W la X Y _ (by omega)) hI0
      (fun x => { tmps := #[.slice A la ca, .slice B lu.length d, undef, .pointer (some ⟨W.heap.size, 0, none⟩), .pointer (some ⟨W.heap.size + 1, 0, none⟩), .int .i64 (x.1 : Int), .int .u64 (((dig 18446744073709551616 X)[x.1]?.getD 0 : Nat) : Int), v, .slice A la ca, .slice B lu.length d, .slice C la cc, .slice A la ca, .int .i64 (la : Int), .slice C la cc, .int .i64 (la : Int), .bool false, undef, undef, undef, undef, undef, .slice A la ca, .func (.func 68) #[] #[.pointer (some ⟨W.heap.size + 1 + 1, 0, none⟩)], .int .i64 (x.1 : Int), .int .u64 (((dig 18446744073709551616 X)[x.1]?.getD 0 : Nat) : Int), undef, undef, undef, undef, undef, undef, undef, undef, undef, undef, undef, undef], defers := [] }) ?assign ?body ?done ?stop
    case assign =>
      intro l x W K hK
      gi_wp2
      exact hK
    case body =>
      rintro lp pre ⟨i, hi⟩ w' ⟨⟨⟨g0, g1, g2⟩, g3⟩, g4⟩ _
      have hr : (i : Nat) < (dig 18446744073709551616 Y).length := by rw [HM.out]; exact hi
      obtain ⟨_, _, _, hsrc⟩ := rw_slice_len g2
      obtain ⟨ad, rfl, hcell⟩ := hsrc.at_ hr
      have ex := dig_word X i la HN.out hi
      have ey : (dig 18446744073709551616 Y)[i] = Y / 18446744073709551616 ^ i % 18446744073709551616 := dig_get 18446744073709551616 (by decide) Y i hr
      obtain ⟨x, hx⟩ : ∃ x, X / 18446744073709551616 ^ i % 18446744073709551616 = x := ⟨_, rfl⟩
      obtain ⟨y, hy⟩ : ∃ x, Y / 18446744073709551616 ^ i % 18446744073709551616 = x := ⟨_, rfl⟩
      rw [hx] at ex
      rw [ey, hy] at hcell
      show Code.wpIn _ _ _ _ _ { tmps := #[.slice A la ca, .slice B lu.length d, undef, .pointer (some ⟨W.heap.size, 0, none⟩), .pointer (some ⟨W.heap.size + 1, 0, none⟩), .int .i64 (i : Int), .int .u64 (((dig 18446744073709551616 X)[i]?.getD 0 : Nat) : Int), v, .slice A la ca, .slice B lu.length d, .slice (some ad) la cc, .slice A la ca, .int .i64 (la : Int), .slice (some ad) la cc, .int .i64 (la : Int), .bool false, undef, undef, undef, undef, undef, .slice A la ca, .func (.func 68) #[] #[.pointer (some ⟨W.heap.size + 1 + 1, 0, none⟩)], .int .i64 (i : Int), .int .u64 (((dig 18446744073709551616 X)[i]?.getD 0 : Nat) : Int), undef, undef, undef, undef, undef, undef, undef, undef, undef, undef, undef, undef], defers := [] } w'
      rw [ex]
      have hc0 := g0.cell
      have hc1 := g1.cell
      have hf1 := g1.frozen
      have m1 : (0 : Int) ≤ (i : Int) ∧ (i : Int) < (la : Int) := by omega
      have G0 := Lib.hid g0
      have G1 := Lib.hid g1
      have G2 := Lib.hid g2
      have G3 := Lib.hid g3
      have G4 := Lib.hid g4
      have HX1 := Lib.hid hx
      have HY1 := Lib.hid hy
      clear g0 g1 g2 g3 g4 hx hy ex ey hsrc hr hI0 HX HY hxs hys n1
      by_cases hxy : x = y
      · have n2 : ((x : Int) != (y : Int)) = false := by rw [bne_eq_false_iff_eq]; omega
        have HXY := Lib.hid hxy
        clear hxy
        gi_wp2
        refine ⟨KeepsOthers.refl _, KpB.refl _ _, ⟨⟨G0.out, G1.out, G2.out⟩, G3.out⟩, fun j hj => ?_⟩
        rw [List.map_append, List.mem_append] at hj
        rcases hj with hj | hj
        · exact G4.out j hj
        · simp at hj
          subst hj
          rw [HX1.out, HY1.out, HXY.out]
      · have n2 : ((x : Int) != (y : Int)) = true := by rw [bne_iff_ne]; omega
        have KC := Lib.hid (fun w => pcmpu_any x y w)
        obtain ⟨r, hr⟩ : ∃ r, cmpi x y = r := ⟨_, rfl⟩
        rw [hr] at KC
        have HR := Lib.hid hr
        have HXY := Lib.hid hxy
        clear hxy hr
        gi_wp2_with (refine ⟨trivial, ?_⟩; gi_at_call 50; refine (CallsIn.inRound lp (callsIn_wide.2 (KC.out _))).mono ?_; rintro e w2 ⟨rfl, rfl⟩)
        exact ⟨KeepsOthers.setCell _ _ _, rfl, r, pre.map (·.1), i, x, y, ⟨G1.out.set _, G3.out.setCell (p := ⟨W.heap.size + 1, 0, none⟩) (by show W.heap.size ≤ W.heap.size + 1; omega) _⟩, by rw [List.map_append]; rfl, G4.out, HX1.out, HY1.out, HXY.out, HR.out.symm⟩
    case done =>
      rintro D xs w' hD hS ⟨⟨⟨g0, g1, g2⟩, g3⟩, g4⟩ hK
      have e0 : (0 : Int) = cmpi X Y := (cmp_all HN.out HM.out (fun i hi => g4 i (by rw [hS]; exact hi))).symm
      have HG := Lib.hid g1
      have hc1 := g1.cell
      have hf1 := g1.frozen
      have HD := Lib.hid hD
      have HK := Lib.hid hK
      have H3 := Lib.hid g3
      have HE := Lib.hid e0
      clear g0 g1 g2 g4 hS e0 hI0 hD hK
      gi_wp2
      have hK2 : (w'.setCell ⟨W.heap.size + 1, 0, none⟩ (.int .i64 0)).heap[D]? = some (.deferred (some [])) := (KeepsOthers.setCell w' _ _).same D _ HK.out rfl
      have hg2 := HG.out.set (.int .i64 0)
      have hB4 : Bl W (w'.setCell ⟨W.heap.size + 1, 0, none⟩ (.int .i64 0)) := H3.out.setCell (p := ⟨W.heap.size + 1, 0, none⟩) (by show W.heap.size ≤ W.heap.size + 1; omega) _
      refine ⟨by simp, .inl ⟨_, _, rfl, run_takeDeferred hK2, ?_⟩⟩
      have hc5 := cell_kept hg2.cell (grownBy_putObj' _ D (.deferred none)) (fun r e => by cases e; exact ⟨_, hK2, rfl⟩)
      refine ⟨.int .i64 0, ?_, ret_i64 HE.out, Below.trans (show Below W.heap.size W _ from hB4) (belowK_b (w := W) (Nat.le_refl _) _ D _ _ (by have := HD.out; omega) hK2 rfl rfl)⟩
      simp [results, Try.results29, go_sem, hc5]
    case stop =>
      rintro D c pre w' hD ⟨k, hkn, hk⟩ ⟨rfl, r, ps, i, x, y, ⟨g1, g3⟩, g4, g5, g6, g7, g8, rfl⟩ hK
      rw [hk] at g4
      obtain ⟨d1, d2, d3⟩ := down_last g4.symm
      rw [d2] at g6 g7
      have e0 := cmp_at HN.out HM.out (j := ps.length) (by omega) (by rw [← d1]; exact g5) x y g6 g7 g8
      rw [e0] at g1
      have HE := Lib.hid e0
      clear g4 g5 g6 g7 g8 d1 d2 d3 e0 hI0
      gi_wp2
      refine ⟨by simp, .inl ⟨_, _, rfl, run_takeDeferred hK, ?_⟩⟩
      have hc5 := cell_kept g1.cell (grownBy_putObj' _ D (.deferred none)) (fun r e => by cases e; exact ⟨_, hK, rfl⟩)
      refine ⟨.int .i64 (cmpi X Y), ?_, rfl, Below.trans (show Below W.heap.size W w' from g3) (belowK_b (w := W) (Nat.le_refl _) w' D _ _ (by omega) hK rfl rfl)⟩
      simp [results, Try.results29, go_sem, hc5]
  · have HC := Lib.hid (cmp_len (X := X) (Y := Y) (by rw [HN.out, HM.out]; exact hnm))
    have n1 : ((la : Int) != (lc : Int)) = true := by rw [bne_iff_ne]; omega
    have KC := Lib.hid (fun w => pcmpi_any la lc w)
    obtain ⟨r, hr⟩ : ∃ r, cmpi la lc = r := ⟨_, rfl⟩
    rw [hr] at KC
    rw [HN.out, HM.out, hr] at HC
    have HB3 := Lib.hid hB3
    have HB1 := Lib.hid b1'
    clear hr hnm hB3 b1' b0'
    gi_wp2_with (refine ⟨trivial, ?_⟩; gi_at_call 48; refine (callsIn_wide.2 (KC.out _)).mono ?_; rintro e w2 ⟨rfl, rfl⟩)
    have hcr := (HB1.out.set (.int .i64 r)).cell
    refine ⟨.int .i64 r, ?_, ret_i64 HC.out, HB3.out.setCell (p := ⟨W.heap.size + 1, 0, none⟩) (by show W.heap.size ≤ W.heap.size + 1; omega) _⟩
    simp [results, Try.results29, go_sem, hcr]
end Go.Proofs.Ytojpfijjnocboaa
