/-
  strings.HasPrefix at any prefix; disk.List at any beginning.
-/
import Derived.Test.YtdaglbjdgdokpaaDoorPk42
namespace Go.Proofs.YtdaglbjdgdokpaaDoor
open Go.RowKit Go.Shelf
set_option linter.unusedVariables false
set_option linter.unusedSimpArgs false
attribute [local go_sem] Oper.semAt_some

/-- Does s begin with p? -/
def sPre (s p : ByteArray) : Bool := decide (p.size ≤ s.size) && sEq (s.extract 0 p.size) p
set_option maxRecDepth 100000 in
theorem pdhas_any (s p : ByteArray) (hs : s.size ≤ 140737488355328) (hp : p.size ≤ 140737488355328) (w : World) : Calls Tryd.prog 22 #[.string s, .string p] w fun e w' => e = .returned (.bool (sPre s p)) ∧ w = w' := by
  have K : Calls Tryd.prog 30 #[.string s, .string p] w fun e w' => e = .returned (.bool (sPre s p)) ∧ w = w' := by
    obtain ⟨n, hn⟩ : ∃ n, s.size = n := ⟨_, rfl⟩
    obtain ⟨m, hm⟩ : ∃ m, p.size = m := ⟨_, rfl⟩
    have hnb : (n : Int) ≤ 140737488355328 := by omega
    have hmb : (m : Int) ≤ 140737488355328 := by omega
    have h0 : (0 : Int) ≤ (m : Int) := by omega
    by_cases h : m ≤ n
    · have e : sPre s p = ((s.extract 0 m).toList == p.toList) := by unfold sPre; rw [hn, hm, decide_eq_true h]; rfl
      have q0 : decide ((m : Int) ≤ (n : Int)) = true := decide_eq_true (by omega)
      have b1 : (m : Int) ≤ (n : Int) := by omega
      rw [e]
      clear e hs hp
      go_enter Tryd.func30, Tryd.ntmps30
      go_wp2
      go_ret
      exact ⟨rfl, rfl⟩
    · have e : sPre s p = false := by unfold sPre; rw [hn, hm, decide_eq_false h]; rfl
      have q0 : decide ((m : Int) ≤ (n : Int)) = false := decide_eq_false (by omega)
      rw [e]
      clear e hs hp
      go_enter Tryd.func30, Tryd.ntmps30
      go_wp2
      go_ret
      exact ⟨rfl, rfl⟩
  have HK := Lib.hid K
  clear K
  go_enter Tryd.func22, Tryd.ntmps22
  go_wp2_with (go_at_call 30; (with_reducible refine HK.out.mono ?_); rintro e w' ⟨rfl, rfl⟩)
  go_ret
  exact ⟨rfl, rfl⟩
/-- To begin with the one byte x. -/
theorem sPre_one (s : ByteArray) (x : UInt8) : sPre s ⟨#[x]⟩ = match s.toList with
    | [] => false
    | y :: _ => y == x := by
  obtain ⟨⟨s⟩⟩ := s
  unfold sPre sEq
  rw [ByteArray.extract_mk, ByteArray.toList_mk, ByteArray.toList_mk, ByteArray.toList_mk]
  cases s with
  | nil => rfl
  | cons y s =>
    have h1 : (ByteArray.mk #[x]).size = 1 := rfl
    have h2 : (ByteArray.mk ⟨y :: s⟩).size = s.length + 1 := rfl
    rw [h1, h2, decide_eq_true (by omega)]
    simp
/-- The names that begin so. -/
def prs (p : ByteArray) (pre : List Nam) : List Nam := pre.filter fun x => sPre x.1 p
theorem prs_hit {p : ByteArray} {pre : List Nam} {x : Nam} (h : sPre x.1 p = true) : prs p (pre ++ [x]) = prs p pre ++ [x] := by unfold prs; rw [List.filter_append, List.filter_cons, if_pos h]; rfl
theorem prs_miss {p : ByteArray} {pre : List Nam} {x : Nam} (h : sPre x.1 p = false) : prs p (pre ++ [x]) = prs p pre := by unfold prs; rw [List.filter_append, List.filter_cons, if_neg (by rw [h]; decide)]; simp
theorem prs_vals {l : List Fl} (h : Szs l) (p : ByteArray) : (prs p (nms l)).map (·.1) = (l.map Fl.n).filter fun s => sPre s p := by
  unfold prs
  rw [← nms_vals h, List.filter_map]
  rfl
def LInvP (w : World) (p : ByteArray) (pre : List Nam) (W : World) : Prop :=
  (∃ v, Boxed W (w.heap.size + 1 + 1) 44 v ∧ W.ownsRow (w.heap.size + 1 + 1 + 1) 9 1 v (prs p pre).length ((prs p pre).map fun x => Value.string x.1) ∧ True) ∧ Boxed W (w.heap.size + 1) 9 (.string p) ∧ Bl w W
theorem linvp_own (w : World) (p : ByteArray) (B : Nat) (hB : w.heap.size ≤ B) : OwnFrom B (LInvP w p) :=
  OwnFrom.and (Own.from (holdsRow_own (w.heap.size + 1 + 1 + 1) (w.heap.size + 1 + 1) 44 9 1 (fun pre : List Nam => (prs p pre).length) (fun pre => (prs p pre).map fun x => Value.string x.1) (fun _ _ => True)) _)
    (OwnFrom.and (Own.from (boxed_own _ _ _) _) (ownFrom_below (Nat.le_refl _) hB))
set_option maxRecDepth 100000 in
set_option maxHeartbeats 4000000 in
theorem pListP_any (room : Int) (v : Value) (l : List Fl) (p : ByteArray) (w : World) (hv : Fw w v l) (hl : l.length ≤ 1000) (hz : Szs l) (hp : p.size ≤ 140737488355328) :
    Calls Tryd.prog 13 #[.agg #[.int .i64 room, v], .string p] w fun e w' => ∃ u, e = .returned u ∧ Sw w' u ((l.map Fl.n).filter fun s => sPre s p) ∧ Bl w w' := by
  refine (callsIn_wide (n := 6)).1 ?_
  obtain ⟨i0, hi, hz0, hz1, hz2⟩ := info_parts infoS
  obtain ⟨A, c, rfl, -, -, -, hx⟩ := hv
  refine callsIn_of_wp_marks Tryd.func13 rfl trivial ?_ rfl
  simp only [Tryd.ntmps13, List.size_toArray, List.length_cons, List.length_nil, Nat.reduceAdd, Nat.reduceSub, Array.replicate_succ, Array.replicate_zero, List.push_toArray, List.append_toArray, List.nil_append, List.cons_append]
  gi_wp2_with (refine ⟨trivial, ?_⟩; gi_at_call 21; refine (callsIn_wide.2 (pnames_any _ _ _ _)).mono ?_; rintro e w2 ⟨rfl, rfl⟩)
  obtain ⟨W0, hW0⟩ : ∃ W0, ((((w.alloc (.cells #[.int .i64 room, .slice A l.length c] 24)).alloc (.cells #[.string p] 9)).alloc (.cells #[.slice none 0 0] 44)).alloc (.cells #[.slice A l.length c] 22)) = W0 := ⟨_, rfl⟩
  have hsz0 : W0.heap.size = w.heap.size + 1 + 1 + 1 + 1 := by rw [← hW0]; simp only [World.size_alloc]
  have b1 : Boxed W0 (w.heap.size + 1) 9 (.string p) := by
    have := Boxed.new (w.alloc (.cells #[.int .i64 room, .slice A l.length c] 24)) 9 (.string p)
    rw [World.size_alloc] at this
    rw [← hW0]; exact ((this.alloc _).alloc _)
  have b2 : Boxed W0 (w.heap.size + 1 + 1) 44 (.slice none 0 0) := by
    have := Boxed.new ((w.alloc (.cells #[.int .i64 room, .slice A l.length c] 24)).alloc (.cells #[.string p] 9)) 44 (.slice none 0 0)
    rw [World.size_alloc, World.size_alloc] at this
    rw [← hW0]; exact this.alloc _
  have b3 : Boxed W0 (w.heap.size + 1 + 1 + 1) 22 (.slice A l.length c) := by
    have := Boxed.new (((w.alloc (.cells #[.int .i64 room, .slice A l.length c] 24)).alloc (.cells #[.string p] 9)).alloc (.cells #[.slice none 0 0] 44)) 22 (.slice A l.length c)
    rw [World.size_alloc, World.size_alloc, World.size_alloc] at this
    rw [← hW0]; exact this
  have hB0 : Bl w W0 := by rw [← hW0]; exact ((((Bl.refl w).alloc _).alloc _).alloc _).alloc _
  rw [hW0]
  have hI0 : LInvP w p [] W0 := ⟨⟨_, b2, World.ownsRow_nil _ _ _ _, trivial⟩, b1, hB0⟩
  have hxc : ∀ i (h : i < l.length), ∃ b o, A = some ⟨b, o, none⟩ ∧ b < w.heap.size ∧ W0.cell? ⟨b, o + i * 3, none⟩ = some (.string l[i].n) ∧ W0.cell? ⟨b, o + i * 3 + 1, none⟩ = some (.string l[i].d) ∧ W0.cell? ⟨b, o + i * 3 + 2, none⟩ = some (.string l[i].s) := fun i h => by
    obtain ⟨b, o, h1, h2, h3⟩ := hx (by omega)
    exact ⟨b, o, h1, h2, (hB0.cell h2).trans (h3 i h).1, (hB0.cell h2).trans (h3 i h).2.1, (hB0.cell h2).trans (h3 i h).2.2⟩
  clear hW0
  refine wpIn_rangeFunc_ownF (α := Nam) rfl (by decide) (gf := 29) (lb := #[.pointer (some ⟨w.heap.size + 1 + 1 + 1, 0, none⟩)]) rfl trivial (enters_of Tryd.func29 (by kernel_rfl) rfl)
    (names_stops Fence.wide (6 - 1) trivial rfl (by decide) (w.heap.size + 1 + 1 + 1) w.heap.size c A l hl hz W0 (by omega) (by omega) b3.cell hxc)
    belowK_t (belowK_b (by omega)) (Below.refl _ _) (fun _ => rfl)
    (LInvP w p) (fun _ _ _ => False) (linvp_own w p _ (by omega)) (fun _ _ _ _ _ hs _ _ => hs) hI0
    (fun x => { tmps := #[.agg #[.int .i64 room, .slice A l.length c], .string p, .pointer (some ⟨w.heap.size, 0, none⟩), .pointer (some ⟨w.heap.size + 1, 0, none⟩), .slice none 0 0, .pointer (some ⟨w.heap.size + 1 + 1, 0, none⟩), .string x.1, .pointer (some ⟨w.heap.size, 1, none⟩), .slice A l.length c, .func (.func 29) #[] #[.pointer (some ⟨w.heap.size + 1 + 1 + 1, 0, none⟩)], .string x.1, undef, undef, undef, undef, undef, undef, undef, undef], defers := [] }) ?assign ?body ?done ?stop
  case assign =>
    intro l x W K hK
    gi_wp2
    exact hK
  case body =>
    rintro lp pre ⟨s, hs⟩ W ⟨⟨v, hv, hrow, -⟩, hbx, hB⟩ hlt
    have hc := hv.cell
    have hb1 := hbx.cell
    have hsz : w.heap.size + 1 + 1 + 1 ≤ W.heap.size := hv.lt
    have hpl : (prs p pre).length ≤ pre.length := List.length_filter_le _ _
    have KP := Lib.hid (fun W => pdhas_any s p hs hp W)
    dsimp only
    cases hB1 : sPre s p with
    | true =>
      rw [hB1] at KP
      have hh := prs_hit (p := p) (pre := pre) (x := ⟨s, hs⟩) hB1
      gi_wp2_with (first
        | (refine ⟨trivial, ?_⟩; gi_at_call 22; refine (CallsIn.inRound lp (callsIn_wide.2 (KP.out _))).mono ?_; rintro e w2 ⟨rfl, rfl⟩)
        | (gi_at_builtin; refine wpListIn_append_own _ rfl _ _ 44 rfl (w.heap.size + 1 + 1 + 1) 9 i0 (.string ⟨#[]⟩) 1 16 Tryd.underlying44 hi hz0 hz1 hz2 rfl (by decide) _ _ _ rfl (hrow.alloc _) ⟨W.heap.size, 0, none⟩ 1 1 [.string s] rfl rfl (cell_one_new _ _ _) (by simp [Value.oneCell']) (by unfold maxLen; omega) (by omega) (by rw [World.size_alloc]; omega) ?_; intro v' w1 hown' hgrow _; obtain ⟨g', cap', rfl⟩ := ownsRow_succ hown'; obtain ⟨hv1, hv2, hr2, hk2, hb2⟩ := hv.appended (by decide) (own_below hrow (by omega)) hB.size (by omega) (own_below hown' (by omega)) hgrow; have hx1 := (hbx.alloc (.cells #[.string s] 9)).kept hgrow (own_ne hrow (by omega)); have hr3 := hown'.kept (grownBy_setCell' w1 (w.heap.size + 1 + 1) (.slice (some ⟨g', 0, none⟩) ((prs p pre).length + 1) cap')) (.inr (fun e => own_ne hown' (by omega) e.symm)); have hx2 := hx1.kept (grownBy_setCell' w1 (w.heap.size + 1 + 1) (.slice (some ⟨g', 0, none⟩) ((prs p pre).length + 1) cap')) (by simp); have hc1 := hv1.cell; have hf1 := hv1.frozen))
      exact ⟨hk2, hb2, ⟨_, hv2, by rw [hh]; simpa using hr3, trivial⟩, hx2, Below.trans (show Below w.heap.size w W from hB) hb2⟩
    | false =>
      rw [hB1] at KP
      have hh := prs_miss (p := p) (pre := pre) (x := ⟨s, hs⟩) hB1
      gi_wp2_with (refine ⟨trivial, ?_⟩; gi_at_call 22; refine (CallsIn.inRound lp (callsIn_wide.2 (KP.out _))).mono ?_; rintro e w2 ⟨rfl, rfl⟩)
      exact ⟨KeepsOthers.refl _, Below.refl _ _, ⟨v, hv, by rw [hh]; exact hrow, trivial⟩, hbx, hB⟩
  case done =>
    rintro D ys W hD rfl ⟨⟨v, hv, hrow, -⟩, hbx, hB⟩ hK
    have hc := hv.cell
    have hO : Os (w.heap.size + 1 + 1 + 1) W v ((l.map Fl.n).filter fun s => sPre s p) := by
      unfold Os
      have e1 : (prs p (nms l)).map (fun x => Value.string x.1) = ((l.map Fl.n).filter fun s => sPre s p).map Value.string := by rw [← prs_vals hz p, List.map_map]; rfl
      have e2 : (prs p (nms l)).length = ((l.map Fl.n).filter fun s => sPre s p).length := by rw [← prs_vals hz p, List.length_map]
      rw [e1, e2] at hrow
      exact hrow
    gi_wp2
    refine ⟨by simp, .inl ⟨_, _, rfl, run_takeDeferred hK, ?_⟩⟩
    exact ⟨_, results_tmp rfl _ _ _, v, rfl, Os.sw (base := w.heap.size + 1 + 1 + 1) (ownsRow_putObj hO _ hK rfl), Below.trans (show Below w.heap.size w W from hB) (belowK_b (w := w) (Nat.le_refl _) W D _ _ (by omega) hK rfl rfl)⟩
  case stop =>
    rintro D c pre W _ _ h _
    exact h.elim
end Go.Proofs.YtdaglbjdgdokpaaDoor
