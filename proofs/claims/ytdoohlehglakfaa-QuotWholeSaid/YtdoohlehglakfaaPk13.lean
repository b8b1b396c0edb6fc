/-
  Package nat: merged: words made one after the other, with a carry. First what comes out, without a program.
-/
import Derived.Test.YtdoohlehglakfaaPk12
namespace Go.Proofs.Ytdoohlehglakfaa
open Go.RowKit Go.Shelf
set_option linter.unusedVariables false
attribute [local go_sem] Oper.semAt_some

/-- One word made: at place i, of what lies there and of what is carried. -/
def stp (P Q : Nat → Nat → Nat → Nat) (s : List Nat × Nat) (i : Nat) : List Nat × Nat := (s.1.set i (P i (s.1[i]?.getD 0) s.2), Q i (s.1[i]?.getD 0) s.2)
def mrun (P Q : Nat → Nat → Nat → Nat) (l : List Nat) (is : List Nat) : List Nat × Nat := is.foldl (stp P Q) (l, 0)
theorem mrun_snoc (P Q : Nat → Nat → Nat → Nat) (l is : List Nat) (i : Nat) : mrun P Q l (is ++ [i]) = stp P Q (mrun P Q l is) i := by simp [mrun, List.foldl_append]
/-- What the carriers answer are words. -/
def Wds (P Q : Nat → Nat → Nat → Nat) : Prop := ∀ i a c, a < 18446744073709551616 → c < 18446744073709551616 → P i a c < 18446744073709551616 ∧ Q i a c < 18446744073709551616
theorem getD_lt {l : List Nat} (h : All 18446744073709551616 l) (i : Nat) : l[i]?.getD 0 < 18446744073709551616 := by
  by_cases hi : i < l.length
  · have := h i hi
    simpa [hi] using this
  · rw [List.getElem?_eq_none (by omega)]
    decide
theorem wall_set {B : Nat} {l : List Nat} (h : All B l) (i u : Nat) (hu : u < B) : All B (l.set i u) := fun j hj => by
  rw [List.getElem_set]
  split
  · exact hu
  · exact h j (by simpa using hj)
theorem stp_ok {P Q : Nat → Nat → Nat → Nat} (hw : Wds P Q) {s : List Nat × Nat} (h : All 18446744073709551616 s.1 ∧ s.2 < 18446744073709551616) (i : Nat) : All 18446744073709551616 (stp P Q s i).1 ∧ (stp P Q s i).2 < 18446744073709551616 := by
  have h1 := hw i (s.1[i]?.getD 0) s.2 (getD_lt h.1 i) h.2
  exact ⟨wall_set h.1 i _ h1.1, h1.2⟩
theorem mrun_ok {P Q : Nat → Nat → Nat → Nat} (hw : Wds P Q) {l : List Nat} (h : All 18446744073709551616 l) (is : List Nat) : All 18446744073709551616 (mrun P Q l is).1 ∧ (mrun P Q l is).2 < 18446744073709551616 := by
  have : ∀ (is : List Nat) (s : List Nat × Nat), (All 18446744073709551616 s.1 ∧ s.2 < 18446744073709551616) → All 18446744073709551616 (is.foldl (stp P Q) s).1 ∧ (is.foldl (stp P Q) s).2 < 18446744073709551616 := by
    intro is
    induction is with
    | nil => intro s h; exact h
    | cons i is ih => intro s h; exact ih _ (stp_ok hw h i)
  exact this is (l, 0) ⟨h, show 0 < 18446744073709551616 by decide⟩
theorem mrun_len (P Q : Nat → Nat → Nat → Nat) (l is : List Nat) : (mrun P Q l is).1.length = l.length := by
  have : ∀ (is : List Nat) (s : List Nat × Nat), (is.foldl (stp P Q) s).1.length = s.1.length := by
    intro is
    induction is with
    | nil => intro s; rfl
    | cons i is ih => intro s; rw [List.foldl_cons, ih]; simp [stp]
  exact this is (l, 0)
theorem rowf_getD (n i : Nat) (f : Nat → Nat) (h : i < n) : (rowf n f)[i]?.getD 0 = f i := by simp [rowf, h]
/-- From the lowest to the highest place: if the words and the carries are known, the row is known. -/
theorem mrun_range (P Q : Nat → Nat → Nat → Nat) (n : Nat) (x rs cs : Nat → Nat) (h0 : cs 0 = 0) (h : ∀ i, i < n → P i (x i) (cs i) = rs i ∧ Q i (x i) (cs i) = cs (i + 1)) :
    ∀ k, k ≤ n → mrun P Q (rowf n x) (List.range k) = (rowf n (fun i => if i < k then rs i else x i), cs k) := by
  intro k
  induction k with
  | zero => intro _; simp [mrun, h0]
  | succ k ih =>
    intro hk
    rw [List.range_succ, mrun_snoc, ih (by omega)]
    have e : (rowf n (fun i => if i < k then rs i else x i))[k]?.getD 0 = x k := by rw [rowf_getD n k _ (by omega)]; simp
    obtain ⟨h1, h2⟩ := h k (by omega)
    unfold stp
    dsimp only
    rw [e, h1, h2]
    rw [rowf_set n _ (fun i => if i < k + 1 then rs i else x i) k (rs k) (by simp) (fun i hi => by
      by_cases h3 : i < k
      · rw [if_pos h3, if_pos (by omega)]
      · rw [if_neg h3, if_neg (by omega)])]
theorem mrun_end (P Q : Nat → Nat → Nat → Nat) (n : Nat) (x rs cs : Nat → Nat) (h0 : cs 0 = 0) (h : ∀ i, i < n → P i (x i) (cs i) = rs i ∧ Q i (x i) (cs i) = cs (i + 1)) :
    (mrun P Q (rowf n x) (List.range n)).1 = rowf n rs := by
  rw [mrun_range P Q n x rs cs h0 h n (Nat.le_refl _)]
  exact rowf_congr fun i hi => if_pos hi
theorem wide_rowf (l : List Nat) (n : Nat) (h : l.length ≤ n) : l ++ List.replicate (n - l.length) 0 = rowf n (fun i => l[i]?.getD 0) := by
  refine rowf_ext (by simp; omega) fun i hi => ?_
  rw [List.getElem_append]
  split
  · rename_i h1; simp [h1]
  · rename_i h1; rw [List.getElem?_eq_none (by omega)]; simp

/-- A block of cells abides what is no cells. -/
theorem cells_kept {W W' : World} {row : Option Nat} {b : Nat} {a : Array Value} {t : TypeId} {x : Nat × Nat} (h : W.heap[b]? = some (.cells a t x)) (hg : W.grownBy W' row) (hr : ∀ r, row = some r → ∃ o : Obj, W.heap[r]? = some o ∧ o.isCells = false) :
    W'.heap[b]? = some (.cells a t x) := by
  refine (hg.block b (Array.getElem?_eq_some_iff.1 h).1 (fun e => ?_)).trans h
  obtain ⟨o, h1, h2⟩ := hr b e.symm
  rw [h] at h1
  cases h1
  cases h2
end Go.Proofs.Ytdoohlehglakfaa
