/-
  Package nat: merged. · Package nat: spread. · Bits of moved numbers; a row of nothing.
-/
import Derived.Test.YtpdglbfnmilblaaPk20
import Derived.Laws.EntriesVeiled
import Derived.Test.YtpdglbfnmilblaaRnd
import Derived.Test.YtpdglbfnmilblaaPk16
namespace Go.Proofs.Ytpdglbfnmilblaa
open Go.RowKit Go.Shelf
set_option linter.unusedVariables false
set_option linter.unusedSimpArgs false
attribute [local go_sem] Oper.semAt_some

def mgF (F : Nat → Nat → Nat → Nat) (m : List Nat) (i a c : Nat) : Nat := F a (m[i]?.getD 0) c

theorem boxed_other {W : World} {B : Nat} {t : TypeId} {v : Value} (h : Boxed W B t v) (b o : Nat) (u : Value) (hb : b ≠ B) : Boxed (W.setCell ⟨b, o, none⟩ u) B t v := by
  have hlt := h.lt
  show (W.heap.modify b _)[B]? = _
  rw [Array.getElem?_modify, if_neg hb]
  exact h
theorem bk_other {k : IntKind} {e : TypeId} {W : World} {g : Nat} {l : List Nat} (h : Bk k e W g l) (b o : Nat) (u : Value) (hb : b ≠ g) : Bk k e (W.setCell ⟨b, o, none⟩ u) g l := by
  show (W.heap.modify b _)[g]? = _
  rw [Array.getElem?_modify, if_neg hb]
  exact h
theorem setCell_heap_other (W : World) (b o : Nat) (u : Value) (j : Nat) (hb : b ≠ j) : (W.setCell ⟨b, o, none⟩ u).heap[j]? = W.heap[j]? := by
  show (W.heap.modify b _)[j]? = _
  rw [Array.getElem?_modify, if_neg hb]
/-- What a round of merged keeps. -/
def MK (w : World) (j : Nat) : Prop := j < w.heap.size ∨ j = w.heap.size + 1 + 1 + 1 + 1 + 1 ∨ j = w.heap.size + 1 + 1 + 1 + 1 + 1 + 1
theorem rw_kept {k : IntKind} {W W' : World} {row : Option Nat} {v : Value} {l : List Nat} (h : Rw k W v l) (hg : W.grownBy W' row) (hr : ∀ r, row = some r → ∃ o : Obj, W.heap[r]? = some o ∧ o.isCells = false) : Rw k W' v l := by
  obtain ⟨A, c, hv, h1, h2, h3, h4⟩ := h
  refine ⟨A, c, hv, h1, h2, h3, fun hl => ?_⟩
  obtain ⟨ad, ha, hb, hx⟩ := h4 hl
  exact ⟨ad, ha, Nat.lt_of_lt_of_le hb hg.size, fun i hi => cell_kept (hx i hi) hg hr⟩
theorem rw_put {k : IntKind} {W : World} {v : Value} {l : List Nat} (h : Rw k W v l) {D : Nat} {o : Obj} (o' : Obj) (hD : W.heap[D]? = some o) (ho : o.isCells = false) : Rw k (W.putObj D o') v l :=
  rw_kept h (grownBy_putObj' _ D o') (fun r e => by cases e; exact ⟨_, hD, ho⟩)

end Go.Proofs.Ytpdglbfnmilblaa
namespace Go.Proofs.Ytpdglbfnmilblaa
open Go.RowKit Go.Shelf
set_option linter.unusedVariables false
set_option linter.unusedSimpArgs false
attribute [local go_sem] Oper.semAt_some

def spF (F : Nat → Nat → Nat → Nat) (l : List Nat) (b : Nat) (i a c : Nat) : Nat := F (l[i]?.getD 0) b c

/-- What a round of spread keeps. -/
def SK (w : World) (j : Nat) : Prop := j < w.heap.size ∨ j = w.heap.size + 1 + 1 + 1 + 1 + 1 + 1 ∨ j = w.heap.size + 1 + 1 + 1 + 1 + 1 + 1 + 1
end Go.Proofs.Ytpdglbfnmilblaa
namespace Go.Proofs.Ytpdglbfnmilblaa
open Go.RowKit
set_option linter.unusedVariables false

theorem blen_lt {x n : Nat} (h : x < 2 ^ n) : blen x ≤ n := by
  unfold blen
  split
  · omega
  · have := (Nat.log2_lt (by omega)).2 h
    omega
theorem blen_mod (x n r : Nat) (h : x % 2 ^ n = r) : blen r ≤ n := blen_lt (by rw [← h]; exact Nat.mod_lt _ (Nat.two_pow_pos n))
theorem blen_sz {k x : Nat} (h : Sz k x) : blen x ≤ 64 * k := by
  unfold Sz at h
  have e : (18446744073709551616 : Nat) = 2 ^ 64 := by decide
  rw [e, ← Nat.pow_mul] at h
  exact blen_lt h
theorem blen_shl_eq (x n : Nat) (h : 0 < x) : blen (x * 2 ^ n) = blen x + n := by
  have hp : 0 < x * 2 ^ n := Nat.mul_pos h (Nat.two_pow_pos n)
  unfold blen
  rw [if_neg (by omega), if_neg (by omega)]
  have h1 : 2 ^ (Nat.log2 x) ≤ x := (Nat.le_log2 (by omega)).1 (Nat.le_refl _)
  have h2 : x < 2 ^ (Nat.log2 x + 1) := (Nat.log2_lt (by omega)).1 (by omega)
  have e1 : Nat.log2 x + n ≤ Nat.log2 (x * 2 ^ n) := (Nat.le_log2 (by omega)).2 (by rw [Nat.pow_add]; exact Nat.mul_le_mul_right _ h1)
  have e2 : Nat.log2 (x * 2 ^ n) < Nat.log2 x + n + 1 := (Nat.log2_lt (by omega)).2 (by
    rw [show Nat.log2 x + n + 1 = Nat.log2 x + 1 + n from by omega, Nat.pow_add]
    exact Nat.mul_lt_mul_of_pos_right h2 (Nat.two_pow_pos n))
  omega
theorem blen_shl (x n : Nat) : blen (x * 2 ^ n) ≤ blen x + n := by
  rcases Nat.eq_zero_or_pos x with h | h
  · subst h; rw [Nat.zero_mul]; unfold blen; simp
  · rw [blen_shl_eq x n h]; omega
theorem row0 {k : IntKind} {w : World} {v : Value} (h : Rw k w v []) : ∃ A c, v = .slice A 0 c := by
  obtain ⟨A, c, hv, _⟩ := h
  exact ⟨A, c, hv⟩
end Go.Proofs.Ytpdglbfnmilblaa
