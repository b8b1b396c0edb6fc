/-
  The names of ranges, as plain data (layer 16).
-/
import Derived.Test.YtdaglbjdgdokpaaDoorCrS
namespace Go.Proofs.YtdaglbjdgdokpaaDoor
open Go.RowKit
set_option linter.unusedVariables false
set_option linter.unusedSimpArgs false

/-! ### Names -/
/-- A number's decimal. -/
def figs (n : Nat) : List Nat := if n < 10 then [48 + n] else figs (n / 10) ++ [48 + n % 10]
termination_by n
decreasing_by omega
theorem figs_small {n : Nat} (h : n < 10) : figs n = [48 + n] := by rw [figs, if_pos h]
theorem figs_big {n : Nat} (h : ¬ n < 10) : figs n = figs (n / 10) ++ [48 + n % 10] := by rw [figs, if_neg h]
theorem figs_mem : ∀ n : Nat, ∀ x ∈ figs n, 48 ≤ x ∧ x ≤ 57 := by
  intro n
  induction n using Nat.strongRecOn with
  | ind n ih =>
    intro x hx
    by_cases h : n < 10
    · rw [figs_small h] at hx
      have : x = 48 + n := by simpa using hx
      omega
    · rw [figs_big h] at hx
      rcases List.mem_append.1 hx with h1 | h1
      · exact ih (n / 10) (by omega) x h1
      · have : x = 48 + n % 10 := by simpa using h1
        omega
theorem figs_ne (n : Nat) : figs n ≠ [] := by
  by_cases h : n < 10
  · rw [figs_small h]; simp
  · rw [figs_big h]; simp
theorem figs_one {n : Nat} (h : (figs n).length = 1) : n < 10 := by
  by_cases h1 : n < 10
  · exact h1
  · rw [figs_big h1, List.length_append, List.length_singleton] at h
    have := List.length_pos_iff.2 (figs_ne (n / 10))
    omega
theorem figs_inj : ∀ n m : Nat, figs n = figs m → n = m := by
  intro n
  induction n using Nat.strongRecOn with
  | ind n ih =>
    intro m e
    by_cases h : n < 10
    · have h2 : m < 10 := figs_one (by rw [← e, figs_small h]; rfl)
      rw [figs_small h, figs_small h2] at e
      simp at e
      exact e
    · by_cases h2 : m < 10
      · exact absurd (figs_one (by rw [e, figs_small h2]; rfl)) h
      · rw [figs_big h, figs_big h2] at e
        have e1 := List.append_inj' e rfl
        have e2 := ih (n / 10) (by omega) (m / 10) e1.1
        have e3 : 48 + n % 10 = 48 + m % 10 := by simpa using e1.2
        omega
/-- The name of a range, byte by byte. -/
def nmL (f t : Int) : List Nat := 99 :: (figs f.toNat ++ 45 :: figs t.toNat)
def nmB (f t : Int) : ByteArray := bs (nmL f t)
theorem nmL_all (f t : Int) : All 256 (nmL f t) := by
  have hm : ∀ x ∈ nmL f t, x < 256 := by
    intro x hx
    rcases List.mem_cons.1 hx with rfl | h1
    · decide
    · rcases List.mem_append.1 h1 with h2 | h2
      · have := figs_mem _ x h2; omega
      · rcases List.mem_cons.1 h2 with rfl | h3
        · decide
        · have := figs_mem _ x h3; omega
  exact fun i h => hm _ (List.getElem_mem h)
theorem split_at {a b c d : List Nat} (ha : ∀ x ∈ a, x ≠ 45) (hc : ∀ x ∈ c, x ≠ 45) (e : a ++ 45 :: b = c ++ 45 :: d) : a = c ∧ b = d := by
  induction a generalizing c with
  | nil =>
    cases c with
    | nil => simp at e; exact ⟨rfl, e⟩
    | cons y c =>
      simp at e
      exact absurd e.1.symm (hc y (List.mem_cons_self ..))
  | cons x a ih =>
    cases c with
    | nil =>
      simp at e
      exact absurd e.1 (ha x (List.mem_cons_self ..))
    | cons y c =>
      simp at e
      obtain ⟨rfl, e⟩ := e
      obtain ⟨rfl, rfl⟩ := ih (fun z hz => ha z (List.mem_cons_of_mem _ hz)) (fun z hz => hc z (List.mem_cons_of_mem _ hz)) e
      exact ⟨rfl, rfl⟩
theorem figs_no (n : Nat) : ∀ x ∈ figs n, x ≠ 45 := fun x hx => by have := figs_mem n x hx; omega
theorem nmB_inj {f t g u : Int} (hf : 0 ≤ f) (ht : 0 ≤ t) (hg : 0 ≤ g) (hu : 0 ≤ u) (e : nmB f t = nmB g u) : f = g ∧ t = u := by
  have e1 := bs_inj (nmL_all f t) (nmL_all g u) e
  unfold nmL at e1
  have e2 := split_at (figs_no _) (figs_no _) (List.cons.inj e1).2
  have a := figs_inj _ _ e2.1
  have b := figs_inj _ _ e2.2
  omega
theorem nmB_size (f t : Int) : (nmB f t).size = (figs f.toNat).length + (figs t.toNat).length + 2 := by
  show (bs (nmL f t)).size = _
  rw [bs_size]
  unfold nmL
  simp
  omega
theorem figs_len {n : Nat} (h : n < 10000000000000000000) : (figs n).length ≤ 19 := by
  have : ∀ k n : Nat, n < 10 ^ (k + 1) → (figs n).length ≤ k + 1 := by
    intro k
    induction k with
    | zero => intro n hn; rw [figs_small (by simpa using hn)]; simp
    | succ k ih =>
      intro n hn
      by_cases h1 : n < 10
      · rw [figs_small h1]; simp
      · rw [figs_big h1, List.length_append]
        have h2 : n / 10 < 10 ^ (k + 1) := by
          rw [Nat.div_lt_iff_lt_mul (by decide)]
          rw [Nat.pow_succ] at hn
          exact hn
        have := ih (n / 10) h2
        simp
        omega
  exact this 18 n (by simpa using h)
/-- Does a name begin with c? -/
def isC (s : ByteArray) : Bool := match s.toList with
  | [] => false
  | x :: _ => x == 99
theorem nmB_c (f t : Int) : isC (nmB f t) = true := by
  unfold isC nmB
  rw [bs_list]
  rfl
def tN : ByteArray := ⟨#[116]⟩
theorem tN_c : isC tN = false := by unfold isC tN; rw [ByteArray.toList_mk]; rfl
theorem nmB_t (f t : Int) : nmB f t ≠ tN := by
  intro e
  have := nmB_c f t
  rw [e, tN_c] at this
  cases this
end Go.Proofs.YtdaglbjdgdokpaaDoor
