/-
  Package disk: List, where nothing is asked of how a name begins.
-/
import Derived.Maps.AppendAt
import Derived.Test.YtdaglbjdgdokpaaDoorPk41
namespace Go.Proofs.YtdaglbjdgdokpaaDoor
open Go.RowKit Go.Shelf
set_option linter.unusedVariables false
set_option linter.unusedSimpArgs false
attribute [local go_sem] Oper.semAt_some

theorem infoS : (Tryd.prog.info? 9).map (fun i => (i.zero, i.size, i.bytes)) = some (some (.string ⟨#[]⟩), 1, 16) := by kernel_rfl
theorem boxed_own {β : Type} (B : Nat) (t : TypeId) (v : Value) : Own (fun (_ : β) W => Boxed W B t v) := by
  intro s X Y row h hg hr
  refine Boxed.kept h hg (fun e' => ?_)
  obtain ⟨o, ho, hc⟩ := hr B e'.symm
  rw [show X.heap[B]? = _ from h] at ho
  cases ho
  cases hc
theorem own_below {W : World} {base base' size k : Nat} {e : TypeId} {v : Value} {xs : List Value} (h : W.ownsRow base e size v k xs) (hb : base' ≤ base) : W.ownsRow base' e size v k xs := by
  obtain ⟨h1, h2⟩ := h
  refine ⟨h1, ?_⟩
  rcases h2 with h2 | ⟨g, cap, cur, e, hg, rest⟩
  · exact .inl h2
  · exact .inr ⟨g, cap, cur, e, Nat.le_trans hb hg, rest⟩
theorem own_ne {W : World} {base size k b : Nat} {e : TypeId} {v : Value} {xs : List Value} (h : W.ownsRow base e size v k xs) (hb : b < base) : some b ≠ v.ownBlock := by
  rcases h.2 with ⟨rfl, _⟩ | ⟨g, cap, cur, rfl, hg, _⟩
  · simp [Value.ownBlock]
  · intro e'
    have : b = g := by simpa [Value.ownBlock] using e'
    omega
/-- Between two rounds. -/
def LInv (w : World) (pre : List Nam) (W : World) : Prop :=
  (∃ v, Boxed W (w.heap.size + 1 + 1) 44 v ∧ W.ownsRow (w.heap.size + 1 + 1 + 1) 9 1 v pre.length (pre.map fun x => Value.string x.1) ∧ True) ∧ Boxed W (w.heap.size + 1) 9 (.string ⟨#[]⟩) ∧ Bl w W
theorem linv_own (w : World) (B : Nat) (hB : w.heap.size ≤ B) : OwnFrom B (LInv w) :=
  OwnFrom.and (Own.from (holdsRow_own (w.heap.size + 1 + 1 + 1) (w.heap.size + 1 + 1) 44 9 1 (fun pre : List Nam => pre.length) (fun pre => pre.map fun x => Value.string x.1) (fun _ _ => True)) _)
    (OwnFrom.and (Own.from (boxed_own _ _ _) _) (ownFrom_below (Nat.le_refl _) hB))
set_option maxRecDepth 100000 in
set_option maxHeartbeats 4000000 in
theorem pList_any (room : Int) (v : Value) (l : List Fl) (w : World) (hv : Fw w v l) (hl : l.length ≤ 1000) (hz : Szs l) :
    Calls Tryd.prog 13 #[.agg #[.int .i64 room, v], .string ⟨#[]⟩] w fun e w' => ∃ u, e = .returned u ∧ Sw w' u (l.map Fl.n) ∧ Bl w w' := by
  refine (callsIn_wide (n := 6)).1 ?_
  obtain ⟨i0, hi, hz0, hz1, hz2⟩ := info_parts infoS
  obtain ⟨A, c, rfl, -, -, -, hx⟩ := hv
  refine callsIn_of_wp_marks Tryd.func13 rfl trivial ?_ rfl
  simp only [Tryd.ntmps13, List.size_toArray, List.length_cons, List.length_nil, Nat.reduceAdd, Nat.reduceSub, Array.replicate_succ, Array.replicate_zero, List.push_toArray, List.append_toArray, List.nil_append, List.cons_append]
  gi_wp2_with (refine ⟨trivial, ?_⟩; gi_at_call 21; refine (callsIn_wide.2 (pnames_any _ _ _ _)).mono ?_; rintro e w2 ⟨rfl, rfl⟩)
  obtain ⟨W0, hW0⟩ : ∃ W0, ((((w.alloc (.cells #[.int .i64 room, .slice A l.length c] 24)).alloc (.cells #[.string ⟨#[]⟩] 9)).alloc (.cells #[.slice none 0 0] 44)).alloc (.cells #[.slice A l.length c] 22)) = W0 := ⟨_, rfl⟩
  have hsz0 : W0.heap.size = w.heap.size + 1 + 1 + 1 + 1 := by rw [← hW0]; simp only [World.size_alloc]
  have b1 : Boxed W0 (w.heap.size + 1) 9 (.string ⟨#[]⟩) := by
    have := Boxed.new (w.alloc (.cells #[.int .i64 room, .slice A l.length c] 24)) 9 (.string ⟨#[]⟩)
    rw [World.size_alloc] at this
    rw [← hW0]; exact ((this.alloc _).alloc _)
  have b2 : Boxed W0 (w.heap.size + 1 + 1) 44 (.slice none 0 0) := by
    have := Boxed.new ((w.alloc (.cells #[.int .i64 room, .slice A l.length c] 24)).alloc (.cells #[.string ⟨#[]⟩] 9)) 44 (.slice none 0 0)
    rw [World.size_alloc, World.size_alloc] at this
    rw [← hW0]; exact this.alloc _
  have b3 : Boxed W0 (w.heap.size + 1 + 1 + 1) 22 (.slice A l.length c) := by
    have := Boxed.new (((w.alloc (.cells #[.int .i64 room, .slice A l.length c] 24)).alloc (.cells #[.string ⟨#[]⟩] 9)).alloc (.cells #[.slice none 0 0] 44)) 22 (.slice A l.length c)
    rw [World.size_alloc, World.size_alloc, World.size_alloc] at this
    rw [← hW0]; exact this
  have hB0 : Bl w W0 := by rw [← hW0]; exact ((((Bl.refl w).alloc _).alloc _).alloc _).alloc _
  rw [hW0]
  have hI0 : LInv w [] W0 := ⟨⟨_, b2, World.ownsRow_nil _ _ _ _, trivial⟩, b1, hB0⟩
  have hxc : ∀ i (h : i < l.length), ∃ b o, A = some ⟨b, o, none⟩ ∧ b < w.heap.size ∧ W0.cell? ⟨b, o + i * 3, none⟩ = some (.string l[i].n) ∧ W0.cell? ⟨b, o + i * 3 + 1, none⟩ = some (.string l[i].d) ∧ W0.cell? ⟨b, o + i * 3 + 2, none⟩ = some (.string l[i].s) := fun i h => by
    obtain ⟨b, o, h1, h2, h3⟩ := hx (by omega)
    exact ⟨b, o, h1, h2, (hB0.cell h2).trans (h3 i h).1, (hB0.cell h2).trans (h3 i h).2.1, (hB0.cell h2).trans (h3 i h).2.2⟩
  clear hW0
  refine wpIn_rangeFunc_ownF (α := Nam) rfl (by decide) (gf := 29) (lb := #[.pointer (some ⟨w.heap.size + 1 + 1 + 1, 0, none⟩)]) rfl trivial (enters_of Tryd.func29 (by kernel_rfl) rfl)
    (names_stops Fence.wide (6 - 1) trivial rfl (by decide) (w.heap.size + 1 + 1 + 1) w.heap.size c A l hl hz W0 (by omega) (by omega) b3.cell hxc)
    belowK_t (belowK_b (by omega)) (Below.refl _ _) (fun _ => rfl)
    (LInv w) (fun _ _ _ => False) (linv_own w _ (by omega)) (fun _ _ _ _ _ hs _ _ => hs) hI0
    (fun x => { tmps := #[.agg #[.int .i64 room, .slice A l.length c], .string ⟨#[]⟩, .pointer (some ⟨w.heap.size, 0, none⟩), .pointer (some ⟨w.heap.size + 1, 0, none⟩), .slice none 0 0, .pointer (some ⟨w.heap.size + 1 + 1, 0, none⟩), .string x.1, .pointer (some ⟨w.heap.size, 1, none⟩), .slice A l.length c, .func (.func 29) #[] #[.pointer (some ⟨w.heap.size + 1 + 1 + 1, 0, none⟩)], .string x.1, undef, undef, undef, undef, undef, undef, undef, undef], defers := [] }) ?assign ?body ?done ?stop
  case assign =>
    intro l x W K hK
    gi_wp2
    exact hK
  case body =>
    rintro lp pre ⟨s, hs⟩ W ⟨⟨v, hv, hrow, -⟩, hbx, hB⟩ hlt
    have hc := hv.cell
    have hb1 := hbx.cell
    have hsz : w.heap.size + 1 + 1 + 1 ≤ W.heap.size := hv.lt
    have KP := Lib.hid (fun W => phas_none s hs W)
    dsimp only
    gi_wp2_with (first
      | (refine ⟨trivial, ?_⟩; gi_at_call 22; refine (CallsIn.inRound lp (callsIn_wide.2 (KP.out _))).mono ?_; rintro e w2 ⟨rfl, rfl⟩)
      | (gi_at_builtin; refine wpListIn_append_own _ rfl _ _ 44 rfl (w.heap.size + 1 + 1 + 1) 9 i0 (.string ⟨#[]⟩) 1 16 Tryd.underlying44 hi hz0 hz1 hz2 rfl (by decide) _ _ _ rfl (hrow.alloc _) ⟨W.heap.size, 0, none⟩ 1 1 [.string s] rfl rfl (cell_one_new _ _ _) (by simp [Value.oneCell']) (by unfold maxLen; omega) (by omega) (by rw [World.size_alloc]; omega) ?_; intro v' w1 hown' hgrow _; obtain ⟨g', cap', rfl⟩ := ownsRow_succ hown'; obtain ⟨hv1, hv2, hr2, hk2, hb2⟩ := hv.appended (by decide) (own_below hrow (by omega)) hB.size (by omega) (own_below hown' (by omega)) hgrow; have hx1 := (hbx.alloc (.cells #[.string s] 9)).kept hgrow (own_ne hrow (by omega)); have hr3 := hown'.kept (grownBy_setCell' w1 (w.heap.size + 1 + 1) (.slice (some ⟨g', 0, none⟩) (pre.length + 1) cap')) (.inr (fun e => own_ne hown' (by omega) e.symm)); have hx2 := hx1.kept (grownBy_setCell' w1 (w.heap.size + 1 + 1) (.slice (some ⟨g', 0, none⟩) (pre.length + 1) cap')) (by simp); have hc1 := hv1.cell; have hf1 := hv1.frozen))
    exact ⟨hk2, hb2, ⟨_, hv2, by simpa using hr3, trivial⟩, hx2, Below.trans (show Below w.heap.size w W from hB) hb2⟩
  case done =>
    rintro D ys W hD rfl ⟨⟨v, hv, hrow, -⟩, hbx, hB⟩ hK
    have hc := hv.cell
    have hO : Os (w.heap.size + 1 + 1 + 1) W v (l.map Fl.n) := by
      unfold Os
      have e1 : (nms l).map (fun x => Value.string x.1) = (l.map Fl.n).map Value.string := by rw [← nms_vals hz, List.map_map]; rfl
      rw [nms_len, e1] at hrow
      rw [List.length_map]
      exact hrow
    gi_wp2
    refine ⟨by simp, .inl ⟨_, _, rfl, run_takeDeferred hK, ?_⟩⟩
    exact ⟨_, results_tmp rfl _ _ _, v, rfl, Os.sw (base := w.heap.size + 1 + 1 + 1) (ownsRow_putObj hO _ hK rfl), Below.trans (show Below w.heap.size w W from hB) (belowK_b (w := w) (Nat.le_refl _) W D _ _ (by omega) hK rfl rfl)⟩
  case stop =>
    rintro D c pre W _ _ h _
    exact h.elim
end Go.Proofs.YtdaglbjdgdokpaaDoor
