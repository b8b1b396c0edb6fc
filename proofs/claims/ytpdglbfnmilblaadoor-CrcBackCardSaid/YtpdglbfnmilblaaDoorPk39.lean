/-
  What counts as the same record (printed by gen/cst.py) · What a job's part comes to (printed by gen/cst.py)
-/
import Derived.Test.YtpdglbfnmilblaaDoorPk36
import Derived.Test.YtpdglbfnmilblaaDoorPk37
namespace Go.Proofs.YtpdglbfnmilblaaDoor
open Go.RowKit
set_option linter.unusedVariables false
set_option linter.unusedSimpArgs false

theorem same_eq {r u : Rc} (h : (sameP r u && sameJ r u) = true) : r = u := by
  unfold sameP sameJ at h
  simp only [Bool.and_eq_true, decide_eq_true_eq, beq_iff_eq] at h
  obtain ⟨⟨⟨⟨⟨hp, hq⟩, ht⟩, hf, hl⟩, hm⟩, ⟨hc, hd⟩, hg⟩ := h
  obtain ⟨a, b, c, d, e, p, q, t, m⟩ := r
  obtain ⟨a', b', c', d', e', p', q', t', m'⟩ := u
  dsimp only at *
  subst hp; subst hq; subst ht; subst hf; subst hl; subst hm; subst hc; subst hd; subst hg
  rfl
theorem same_no {r u : Rc} (h : r ≠ u) : (sameP r u && sameJ r u) = false := by
  cases e : (sameP r u && sameJ r u)
  · rfl
  · exact absurd (same_eq e) h
theorem same_self (r : Rc) : sameP r r = true ∧ sameJ r r = true := by
  unfold sameP sameJ
  simp
end Go.Proofs.YtpdglbfnmilblaaDoor
namespace Go.Proofs.YtpdglbfnmilblaaDoor
open Go.RowKit
set_option linter.unusedVariables false
set_option linter.unusedSimpArgs false

theorem ofE_bad {a b c : Int} {x : Nat × Rc} (h : x.1 ≠ 0) : ofE a b c x = (x.1, rc0) := by unfold ofE; rw [if_pos h]
theorem ofE_yes {a b c : Int} {x : Nat × Rc} (h : x.1 = 0) (e : (x.2.con == a && x.2.dgs == b && x.2.gua == c) = true) : ofE a b c x = (0, x.2) := by unfold ofE; rw [if_neg (by omega), e]; rfl
theorem ofE_no {a b c : Int} {x : Nat × Rc} (h : x.1 = 0) (e : (x.2.con == a && x.2.dgs == b && x.2.gua == c) = false) : ofE a b c x = (11, rc0) := by unfold ofE; rw [if_neg (by omega), e]; rfl
end Go.Proofs.YtpdglbfnmilblaaDoor
