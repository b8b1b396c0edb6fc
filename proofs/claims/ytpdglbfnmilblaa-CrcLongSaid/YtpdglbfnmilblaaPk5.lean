/-
  The document's rowBytes, May of layer 14.
-/
import Derived.Test.YtpdglbfnmilblaaPk4
namespace Go.Proofs.Ytpdglbfnmilblaa
open Go.RowKit
set_option linter.unusedVariables false
set_option linter.unusedSimpArgs false

/-- The row's bytes between two rounds. -/
def rowF (l : List Nat) (k : Nat) : ByteArray := bs (be 4 l.length ++ wordsB (l.take k))
theorem rowF_start (l : List Nat) : bs (be 4 l.length) = rowF l 0 := by unfold rowF; rw [List.take_zero]; show _ = bs (be 4 l.length ++ []); rw [List.append_nil]
theorem rowF_step (l : List Nat) (k : Nat) (h : k < l.length) : rowF l k ++ bs (be 8 l[k]) = rowF l (k + 1) := by
  unfold rowF
  rw [bs_append, List.append_assoc, List.take_succ_eq_append_getElem h, wordsB_append]
  have e : wordsB [l[k]] = be 8 l[k] := List.append_nil _
  rw [e]
theorem rowF_end (l : List Nat) : rowF l l.length = bs (rowB l) := by unfold rowF rowB; rw [List.take_length]
theorem rowF_size (l : List Nat) (k : Nat) (h : l.length ≤ 4096) : (rowF l k).size ≤ 40000 := by
  unfold rowF
  rw [bs_size, List.length_append, be_len, wordsB_len, List.length_take]; omega

theorem four_ways : ∀ b1 b2 b3 b4 : Bool, b1 = false ∨ (b1 = true ∧ b2 = false) ∨ (b1 = true ∧ b2 = true ∧ b3 = false) ∨ (b1 = true ∧ b2 = true ∧ b3 = true ∧ b4 = false) ∨ (b1 = true ∧ b2 = true ∧ b3 = true ∧ b4 = true) := by decide
theorem three_ways : ∀ b5 b6 b7 : Bool, b5 = false ∨ (b5 = true ∧ b6 = false) ∨ (b5 = true ∧ b6 = true ∧ b7 = false) ∨ (b5 = true ∧ b6 = true ∧ b7 = true) := by decide
/-- A record as a value. -/
def recV (r : Rc) (vp vq vt : Value) : Value := .agg #[.int .i64 r.con, .int .i64 r.dgs, .int .i64 r.gua, .int .i64 r.frm, .int .i64 r.til, vp, vq, vt, .bool r.minus]
/-- A record's cells. -/
def recC (con dgs gua frm til : Int) (vp vq vt : Value) (minus : Bool) : List Value := [.int .i64 con, .int .i64 dgs, .int .i64 gua, .int .i64 frm, .int .i64 til, vp, vq, vt, .bool minus]
theorem may_bool (r : Rc) : decide r.May = (((decide (Sm r.dgs) && decide (Sm r.gua) && decide (Sm r.frm) && decide (Sm r.til)) && (decide (Okr r.p) && decide (Okr r.q) && decide (Okr r.t))) && decide (0 ≤ r.con) && decide (r.con ≤ 255)) := by
  rw [Bool.eq_iff_iff]
  unfold Rc.May
  simp only [Bool.and_eq_true, decide_eq_true_eq, and_assoc]
end Go.Proofs.Ytpdglbfnmilblaa
