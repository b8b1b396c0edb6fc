/-
  A region that draws its order, by what holds between two operations, whichever have been carried out: one piece for each operation, not one for each order.
-/
import Derived.Orders
import Derived.Deep.RegionHeld
import Derived.WalkKit
import Derived.Lib.Hide
namespace Go.Proofs.YtdaglbjdgdokpaaDoor
open Go.RowKit
set_option linter.unusedSimpArgs false
set_option linter.unusedVariables false

/-- Operation j has been carried out. -/
def On (l : Array Bool) (j : Nat) : Prop := l[j]?.getD false = true
theorem On.of_set {l : Array Bool} {i j : Nat} (h : On (l.setIfInBounds i true) j) (hne : i ≠ j) : On l j := by
  unfold On at *
  rw [← h]
  simp [Array.getD_eq_getD_getElem?, Array.getElem?_setIfInBounds, hne]
theorem count_set : ∀ (l : List Bool) (i : Nat), l[i]? = some false → (l.set i true).count false + 1 = l.count false := by
  intro l
  induction l with
  | nil => intro i h; simp at h
  | cons b l ih =>
    intro i h
    cases i with
    | zero => simp at h; subst h; simp
    | succ i =>
      have := ih i (by simpa using h)
      rw [List.set_cons_succ, List.count_cons, List.count_cons]
      omega
theorem ready_spec {md : Region.Mode} {ops : Array Oper} {l : Array Bool} {i : Nat} (h : i ∈ Region.ready md ops l) : i < ops.size ∧ l.getD i true = false ∧ ((ops[i]?).map (·.after.all fun e => !Region.binds md e || l.getD e.on false)).getD false = true := by
  unfold Region.ready at h
  rw [List.mem_filter, List.mem_range] at h
  refine ⟨h.1, ?_, ?_⟩
  · have := h.2; simp only [Bool.and_eq_true, Bool.not_eq_true'] at this; exact this.1
  · have := h.2; simp only [Bool.and_eq_true] at this; exact this.2
theorem wpAny_inv {P : Program} {md : Region.Mode} {ops : Array Oper} {Q : Exit → Act → World → Prop} (I : Array Bool → Act → World → Prop)
    (hstep : ∀ (l : Array Bool) (a : Act) (w : World) (i : Nat), I l a w → i < ops.size → ((ops[i]?).map (·.after.all fun e => !Region.binds md e || l.getD e.on false)).getD false = true → wpOp P ops Q i (I (l.setIfInBounds i true)) a w)
    (hdone : ∀ (l : Array Bool) (a : Act) (w : World), I l a w → l.size = ops.size → Region.ready md ops l = [] → Q .normal a w) :
    ∀ (fuel : Nat) (l : Array Bool) (a : Act) (w : World), l.size = ops.size → l.toList.count false ≤ fuel → I l a w → wpAny P md ops Q fuel l a w := by
  have hat : ∀ (l : Array Bool) i, i ∈ Region.ready md ops l → l.toList[i]? = some false := by
    intro l i h
    have := (ready_spec h).2.1
    rw [Array.getD_eq_getD_getElem?] at this
    rw [Array.getElem?_toList]
    cases h' : l[i]? with
    | none => rw [h'] at this; simp at this
    | some b => rw [h'] at this; simp at this; rw [this]
  intro fuel
  induction fuel with
  | zero =>
    intro l a w hl hc hI
    have hr : Region.ready md ops l = [] := by
      rw [List.eq_nil_iff_forall_not_mem]
      intro i hi
      have := count_set _ i (hat l i hi)
      omega
    exact ⟨hr, hdone l a w hI hl hr⟩
  | succ fuel ih =>
    intro l a w hl hc hI
    refine ⟨fun hr => hdone l a w hI hl hr, fun i hi => ?_⟩
    have hs := ready_spec hi
    refine wpOp_mono (fun a' w' h => ih _ a' w' (by simpa using hl) ?_ h) (hstep l a w i hI hs.1 hs.2.2)
    have := count_set _ i (hat l i hi)
    rw [Array.toList_setIfInBounds]
    omega
/-- The rule. -/
theorem wp_region_inv {P : Program} {id : Nat} {ops : Array Oper} {Q : Exit → Act → World → Prop} {a : Act} {w : World} (I : Array Bool → Act → World → Prop) (hm : P.follows .mixedOrders = true)
    (hstart : I (Array.replicate ops.size false) a w.drew)
    (hstep : ∀ (l : Array Bool) (a : Act) (w : World) (i : Nat), I l a w → i < ops.size → ((ops[i]?).map (·.after.all fun e => !Region.binds .any e || l.getD e.on false)).getD false = true → wpOp P ops Q i (I (l.setIfInBounds i true)) a w)
    (hdone : ∀ (l : Array Bool) (a : Act) (w : World), I l a w → (∀ j, j < ops.size → On l j) → Q .normal a w)
    (hall : ∀ l : Array Bool, l.size = ops.size → Region.ready .any ops l = [] → ∀ j, j < ops.size → On l j) : (Code.region id ops true).wp P Q a w := by
  refine wp_region_any hm (wpAny_inv I hstep (fun l a w h hl hr => hdone l a w h (hall l hl hr)) _ _ _ _ (by simp) ?_ hstart)
  rw [Array.toList_replicate, List.count_replicate]
  simp
theorem not_on {l : Array Bool} {i : Nat} (h : l.getD i true = false) : ¬ On l i := by
  unfold On
  rw [Array.getD_eq_getD_getElem?] at h
  cases h' : l[i]? with
  | none => rw [h'] at h; simp at h
  | some b => rw [h'] at h; simp at h; simp [h]
theorem On.keep {l : Array Bool} {i j : Nat} (h : On l j) : On (l.setIfInBounds i true) j := by
  unfold On at *
  rw [Array.getElem?_setIfInBounds]
  by_cases e : i = j
  · subst e
    rw [if_pos rfl]
    by_cases h2 : i < l.size
    · rw [if_pos h2]; rfl
    · rw [Array.getElem?_eq_none (by omega)] at h; simp at h
  · rw [if_neg e]; exact h
theorem wpAny_inv2 {P : Program} {md : Region.Mode} {ops : Array Oper} {Q : Exit → Act → World → Prop} (I : Array Bool → Act → World → Prop)
    (hstep : ∀ (l : Array Bool) (a : Act) (w : World) (i : Nat), I l a w → ¬ On l i → i < ops.size → ((ops[i]?).map (·.after.all fun e => !Region.binds md e || l.getD e.on false)).getD false = true → wpOp P ops Q i (I (l.setIfInBounds i true)) a w)
    (hdone : ∀ (l : Array Bool) (a : Act) (w : World), I l a w → l.size = ops.size → Region.ready md ops l = [] → Q .normal a w) :
    ∀ (fuel : Nat) (l : Array Bool) (a : Act) (w : World), l.size = ops.size → l.toList.count false ≤ fuel → I l a w → wpAny P md ops Q fuel l a w := by
  have hat : ∀ (l : Array Bool) i, i ∈ Region.ready md ops l → l.toList[i]? = some false := by
    intro l i h
    have := (ready_spec h).2.1
    rw [Array.getD_eq_getD_getElem?] at this
    rw [Array.getElem?_toList]
    cases h' : l[i]? with
    | none => rw [h'] at this; simp at this
    | some b => rw [h'] at this; simp at this; rw [this]
  intro fuel
  induction fuel with
  | zero =>
    intro l a w hl hc hI
    have hr : Region.ready md ops l = [] := by
      rw [List.eq_nil_iff_forall_not_mem]
      intro i hi
      have := count_set _ i (hat l i hi)
      omega
    exact ⟨hr, hdone l a w hI hl hr⟩
  | succ fuel ih =>
    intro l a w hl hc hI
    refine ⟨fun hr => hdone l a w hI hl hr, fun i hi => ?_⟩
    have hs := ready_spec hi
    refine wpOp_mono (fun a' w' h => ih _ a' w' (by simpa using hl) ?_ h) (hstep l a w i hI (not_on hs.2.1) hs.1 hs.2.2)
    have := count_set _ i (hat l i hi)
    rw [Array.toList_setIfInBounds]
    omega
/-- What has just been carried out. -/
theorem on_self {l : Array Bool} {i n : Nat} (hi : i < n) (hl : l.size = n) : On (l.setIfInBounds i true) i := by
  unfold On
  rw [Array.getElem?_setIfInBounds, if_pos rfl, if_pos (by omega)]
  rfl
/-- The rule, for operations of which it matters that they haven't been carried out. -/
theorem wp_region_inv2 {P : Program} {id : Nat} {ops : Array Oper} {Q : Exit → Act → World → Prop} {a : Act} {w : World} (I : Array Bool → Act → World → Prop) (hm : P.follows .mixedOrders = true)
    (hstart : I (Array.replicate ops.size false) a w.drew)
    (hstep : ∀ (l : Array Bool) (a : Act) (w : World) (i : Nat), I l a w → ¬ On l i → i < ops.size → ((ops[i]?).map (·.after.all fun e => !Region.binds .any e || l.getD e.on false)).getD false = true → wpOp P ops Q i (I (l.setIfInBounds i true)) a w)
    (hdone : ∀ (l : Array Bool) (a : Act) (w : World), I l a w → (∀ j, j < ops.size → On l j) → Q .normal a w)
    (hall : ∀ l : Array Bool, l.size = ops.size → Region.ready .any ops l = [] → ∀ j, j < ops.size → On l j) : (Code.region id ops true).wp P Q a w := by
  refine wp_region_any hm (wpAny_inv2 I hstep (fun l a w h hl hr => hdone l a w h (hall l hl hr)) _ _ _ _ (by simp) ?_ hstart)
  rw [Array.toList_replicate, List.count_replicate]
  simp
/-- Where each operation comes behind earlier ones alone, all are carried out at the end. -/
theorem all_done {md : Region.Mode} {ops : Array Oper} (hb : (List.range ops.size).all (fun i => ((ops[i]?).map (·.after.all fun e => decide (e.on < i))).getD false) = true) (l : Array Bool) (hl : l.size = ops.size) (hr : Region.ready md ops l = []) : ∀ j, j < ops.size → On l j := by
  intro j
  induction j using Nat.strongRecOn with
  | ind j ih =>
    intro hj
    unfold On
    rw [← Array.getD_eq_getD_getElem?]
    cases hx : l.getD j false with
    | true => rfl
    | false =>
      exfalso
      have hmem : j ∈ Region.ready md ops l := by
        unfold Region.ready
        rw [List.mem_filter, List.mem_range]
        refine ⟨hj, ?_⟩
        have h1 : l.getD j true = false := by
          rw [Array.getD_eq_getD_getElem?, Array.getElem?_eq_getElem (by omega)] at hx ⊢
          exact hx
        have h2 := List.all_eq_true.1 hb j (List.mem_range.2 hj)
        rw [h1]
        simp only [Bool.not_false, Bool.true_and]
        rw [Array.getElem?_eq_getElem hj] at h2 ⊢
        simp only [Option.map_some, Option.getD_some, Array.all_eq_true] at h2 ⊢
        intro i hi
        have h3 := h2 i hi
        have h4 := of_decide_eq_true h3
        have h5 := ih _ h4 (by omega)
        unfold On at h5
        rw [Array.getD_eq_getD_getElem?, h5]
        simp
      rw [hr] at hmem
      cases hmem
/-- What an operation comes behind has been carried out. -/
theorem on_dep {md : Region.Mode} {ops : Array Oper} {l : Array Bool} {i : Nat} (h : ((ops[i]?).map (·.after.all fun e => !Region.binds md e || l.getD e.on false)).getD false = true) (k : Nat)
    (hk : ((ops[i]?).map (·.after.any fun e => Region.binds md e && e.on == k)).getD false = true) : On l k := by
  cases ho : ops[i]? with
  | none => rw [ho] at hk; cases hk
  | some o =>
    rw [ho] at h hk
    simp only [Option.map_some, Option.getD_some, Array.all_eq_true, Array.any_eq_true] at h hk
    obtain ⟨j, hj, e⟩ := hk
    have h1 := h j hj
    simp only [Bool.and_eq_true, beq_iff_eq] at e
    rw [e.1, e.2] at h1
    unfold On
    rw [Array.getD_eq_getD_getElem?] at h1
    simpa using h1
/-- One operation: what it does, for whatever comes behind. -/
theorem wpOp_intro {P : Program} {ops : Array Oper} {Q : Exit → Act → World → Prop} {i : Nat} {o : Oper} {K : Act → World → Prop} {a : Act} {w : World} (ho : ops[i]? = some o) (hg : o.guard = none)
    (h : ∀ K' : Act → World → Prop, Hid (∀ a w, K a w → K' a w) → o.wp P a w K' Q) : wpOp P ops Q i K a w := by
  unfold wpOp
  rw [ho]
  simp only [Region.wanted, hg, if_true]
  exact Or.inl (h K fun _ _ h => h)
end Go.Proofs.YtdaglbjdgdokpaaDoor
