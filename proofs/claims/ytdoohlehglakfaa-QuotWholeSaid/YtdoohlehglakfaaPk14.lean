/-
  A region that draws its order, inside a round of a range over a function: from the plain walk of its orders. · Package nat: merged. · Package nat: spread. · Bits of moved numbers; a row of nothing.
-/
import Derived.RangeFuncNested
import Derived.RangeFuncCalls
import Derived.Shelf.RegionOpen
import Derived.OwnWalkIn
import Derived.OrdersHeld
import Derived.Deep.RegionHeld
import Derived.Test.YtdoohlehglakfaaProg
import Derived.Test.YtdoohlehglakfaaPk13
import Derived.Laws.EntriesVeiled
import Derived.Test.YtdoohlehglakfaaPk9
namespace Go.Proofs.Ytdoohlehglakfaa
open Go.RowKit Go.Shelf
set_option linter.unusedVariables false

theorem wp_inRound {P : Program} {o : Oper} {a : Act} {w : World} {K : Act → World → Prop} {Q : Exit → Act → World → Prop} {l n : Nat} (hd : ∀ c, o.op ≠ .defer c) (h : o.wp P a w K Q) : o.wpIn (Fence.wide.inRound l) n P a w K Q := by
  unfold Oper.wpIn
  refine ⟨fun _ _ => trivial, ?_⟩
  rw [Oper.semAt_plain _ _ _ hd]
  unfold Oper.wp at h
  generalize (execOp a.eval o).run P w = r at *
  cases r with
  | ok x w' =>
    cases x <;> simp only [Oper.upon, Oper.uponIn] at h ⊢
    case value => exact h
    case skip => exact h
    case defer => exact h
    case enter => exact ⟨fun h => (by cases h), CallsIn.inRound l (callsIn_wide.2 h)⟩
    case row => exact ⟨fun h => (by cases h), fun c cs _ => let ⟨v, w', r, s⟩ := h c cs; ⟨v, w', r, stepsIn_wide.2 s⟩⟩
  | halt x w' => cases x <;> simp only [Oper.upon, Oper.uponIn] at h ⊢ <;> exact h

/-- No operation defers. -/
def NoDefer (ops : Array Oper) : Prop := ∀ (i : Nat) (o : Oper), ops[i]? = some o → ∀ c, o.op ≠ .defer c
theorem wpAny_inRound {P : Program} {ops : Array Oper} {Q : Exit → Act → World → Prop} {md : Region.Mode} {l n : Nat} (hd : NoDefer ops) (hQ : ¬ LetsOut Q) :
    ∀ (fuel : Nat) (listed : Array Bool) (a : Act) (w : World), wpAny P md ops Q fuel listed a w → wpAnyIn (Fence.wide.inRound l) n P md ops Q fuel listed a w := by
  intro fuel
  induction fuel with
  | zero => intro listed a w h; exact h
  | succ fuel ih =>
    intro listed a w h
    refine ⟨h.1, fun i hi => ?_⟩
    have h2 := h.2 i hi
    unfold wpOp at h2
    unfold wpOpIn
    cases ho : ops[i]? with
    | none =>
      simp only [ho] at h2 ⊢
      exact ih _ _ _ h2
    | some o =>
      simp only [ho] at h2 ⊢
      by_cases hw : Region.wanted o (yielded ops a.tmps) = true
      · rw [if_pos hw] at h2 ⊢
        rcases h2 with h2 | ⟨_, h2⟩
        · exact Oper.wpIn_mono (fun a w h => ih _ a w h) (wp_inRound (hd i o ho) h2)
        · exact absurd h2 hQ
      · rw [if_neg hw] at h2 ⊢
        exact ⟨fun _ _ => trivial, ih _ _ _ h2⟩
def noDef (ops : Array Oper) : Bool := ops.all fun o => match o.op with
  | .defer _ => false
  | _ => true
theorem noDef_spec {ops : Array Oper} (h : noDef ops = true) : NoDefer ops := by
  intro i o ho c hc
  obtain ⟨hi, rfl⟩ := Array.getElem?_eq_some_iff.1 ho
  have h1 := Array.all_eq_true.1 h i hi
  rw [hc] at h1
  cases h1
/-- The beginning: a region that draws, in a round. S: what the loads read. -/
theorem region_inRound {P : Program} {id : Nat} {ops : Array Oper} {Q : Exit → Act → World → Prop} {l n : Nat} {a : Act} {w : World} (S : World → Prop) (hm : P.follows .mixedOrders = true) (hd : NoDefer ops) (hQ : ¬ LetsOut Q)
    (h : wpAnyH P .any ops Q S ops.size (Array.replicate ops.size false) a w.drew) : (Code.region id ops true).wpIn (Fence.wide.inRound l) n P Q a w :=
  wpIn_region_any hm (wpAny_inRound hd hQ _ _ _ _ (wpAny_of_held _ _ _ _ h))
end Go.Proofs.Ytdoohlehglakfaa
namespace Go.Proofs.Ytdoohlehglakfaa
open Go.RowKit Go.Shelf
set_option linter.unusedVariables false
set_option linter.unusedSimpArgs false
attribute [local go_sem] Oper.semAt_some

def mgF (F : Nat → Nat → Nat → Nat) (m : List Nat) (i a c : Nat) : Nat := F a (m[i]?.getD 0) c

theorem boxed_other {W : World} {B : Nat} {t : TypeId} {v : Value} (h : Boxed W B t v) (b o : Nat) (u : Value) (hb : b ≠ B) : Boxed (W.setCell ⟨b, o, none⟩ u) B t v := by
  have hlt := h.lt
  show (W.heap.modify b _)[B]? = _
  rw [Array.getElem?_modify, if_neg hb]
  exact h
theorem bk_other {k : IntKind} {e : TypeId} {W : World} {g : Nat} {l : List Nat} (h : Bk k e W g l) (b o : Nat) (u : Value) (hb : b ≠ g) : Bk k e (W.setCell ⟨b, o, none⟩ u) g l := by
  show (W.heap.modify b _)[g]? = _
  rw [Array.getElem?_modify, if_neg hb]
  exact h
theorem setCell_heap_other (W : World) (b o : Nat) (u : Value) (j : Nat) (hb : b ≠ j) : (W.setCell ⟨b, o, none⟩ u).heap[j]? = W.heap[j]? := by
  show (W.heap.modify b _)[j]? = _
  rw [Array.getElem?_modify, if_neg hb]
/-- What a round of merged keeps. -/
def MK (w : World) (j : Nat) : Prop := j < w.heap.size ∨ j = w.heap.size + 1 + 1 + 1 + 1 + 1 ∨ j = w.heap.size + 1 + 1 + 1 + 1 + 1 + 1
theorem rw_kept {k : IntKind} {W W' : World} {row : Option Nat} {v : Value} {l : List Nat} (h : Rw k W v l) (hg : W.grownBy W' row) (hr : ∀ r, row = some r → ∃ o : Obj, W.heap[r]? = some o ∧ o.isCells = false) : Rw k W' v l := by
  obtain ⟨A, c, hv, h1, h2, h3, h4⟩ := h
  refine ⟨A, c, hv, h1, h2, h3, fun hl => ?_⟩
  obtain ⟨ad, ha, hb, hx⟩ := h4 hl
  exact ⟨ad, ha, Nat.lt_of_lt_of_le hb hg.size, fun i hi => cell_kept (hx i hi) hg hr⟩
theorem rw_put {k : IntKind} {W : World} {v : Value} {l : List Nat} (h : Rw k W v l) {D : Nat} {o : Obj} (o' : Obj) (hD : W.heap[D]? = some o) (ho : o.isCells = false) : Rw k (W.putObj D o') v l :=
  rw_kept h (grownBy_putObj' _ D o') (fun r e => by cases e; exact ⟨_, hD, ho⟩)

end Go.Proofs.Ytdoohlehglakfaa
namespace Go.Proofs.Ytdoohlehglakfaa
open Go.RowKit Go.Shelf
set_option linter.unusedVariables false
set_option linter.unusedSimpArgs false
attribute [local go_sem] Oper.semAt_some

def spF (F : Nat → Nat → Nat → Nat) (l : List Nat) (b : Nat) (i a c : Nat) : Nat := F (l[i]?.getD 0) b c

/-- What a round of spread keeps. -/
def SK (w : World) (j : Nat) : Prop := j < w.heap.size ∨ j = w.heap.size + 1 + 1 + 1 + 1 + 1 + 1 ∨ j = w.heap.size + 1 + 1 + 1 + 1 + 1 + 1 + 1
end Go.Proofs.Ytdoohlehglakfaa
namespace Go.Proofs.Ytdoohlehglakfaa
open Go.RowKit
set_option linter.unusedVariables false

theorem blen_lt {x n : Nat} (h : x < 2 ^ n) : blen x ≤ n := by
  unfold blen
  split
  · omega
  · have := (Nat.log2_lt (by omega)).2 h
    omega
theorem blen_mod (x n r : Nat) (h : x % 2 ^ n = r) : blen r ≤ n := blen_lt (by rw [← h]; exact Nat.mod_lt _ (Nat.two_pow_pos n))
theorem blen_sz {k x : Nat} (h : Sz k x) : blen x ≤ 64 * k := by
  unfold Sz at h
  have e : (18446744073709551616 : Nat) = 2 ^ 64 := by decide
  rw [e, ← Nat.pow_mul] at h
  exact blen_lt h
theorem blen_shl_eq (x n : Nat) (h : 0 < x) : blen (x * 2 ^ n) = blen x + n := by
  have hp : 0 < x * 2 ^ n := Nat.mul_pos h (Nat.two_pow_pos n)
  unfold blen
  rw [if_neg (by omega), if_neg (by omega)]
  have h1 : 2 ^ (Nat.log2 x) ≤ x := (Nat.le_log2 (by omega)).1 (Nat.le_refl _)
  have h2 : x < 2 ^ (Nat.log2 x + 1) := (Nat.log2_lt (by omega)).1 (by omega)
  have e1 : Nat.log2 x + n ≤ Nat.log2 (x * 2 ^ n) := (Nat.le_log2 (by omega)).2 (by rw [Nat.pow_add]; exact Nat.mul_le_mul_right _ h1)
  have e2 : Nat.log2 (x * 2 ^ n) < Nat.log2 x + n + 1 := (Nat.log2_lt (by omega)).2 (by
    rw [show Nat.log2 x + n + 1 = Nat.log2 x + 1 + n from by omega, Nat.pow_add]
    exact Nat.mul_lt_mul_of_pos_right h2 (Nat.two_pow_pos n))
  omega
theorem blen_shl (x n : Nat) : blen (x * 2 ^ n) ≤ blen x + n := by
  rcases Nat.eq_zero_or_pos x with h | h
  · subst h; rw [Nat.zero_mul]; unfold blen; simp
  · rw [blen_shl_eq x n h]; omega
theorem row0 {k : IntKind} {w : World} {v : Value} (h : Rw k w v []) : ∃ A c, v = .slice A 0 c := by
  obtain ⟨A, c, hv, _⟩ := h
  exact ⟨A, c, hv⟩
end Go.Proofs.Ytdoohlehglakfaa
