/-
  Rows of one and two words, read cell by cell.
-/
import Derived.Test.YteoeaogfeblokaaNatCa
namespace Go.Proofs.Yteoeaogfeblokaa
open Go.RowKit
set_option linter.unusedVariables false

theorem nu_lit {w : World} {e : TypeId} {x b : Nat} {z : Int} (hb : b = w.heap.size) (hz : z = (x : Int)) (hx : x < 18446744073709551616) : Nu (w.alloc (.cells #[.int .u64 z] e)) (.slice (some ⟨b, 0, none⟩) 1 1) x := by
  subst hz
  exact ⟨[x], lit_at hb, all_cons hx (all_nil _), by simp, val_one _ x⟩

theorem row1 {k : IntKind} {w : World} {v : Value} {x : Nat} (h : Rw k w v [x]) : ∃ ad c, v = .slice (some ad) 1 c ∧ ad.block < w.heap.size ∧ w.cell? (ad.add 0) = some (.int k (x : Int)) := by
  obtain ⟨A, c, hv, _, _, _, hs⟩ := h
  obtain ⟨ad, hA, hb, hx⟩ := hs (by simp)
  subst hA
  exact ⟨ad, c, hv, hb, hx 0 (by simp)⟩
theorem row2 {k : IntKind} {w : World} {v : Value} {x y : Nat} (h : Rw k w v [x, y]) : ∃ ad c, v = .slice (some ad) 2 c ∧ ad.block < w.heap.size ∧ w.cell? (ad.add 0) = some (.int k (x : Int)) ∧ w.cell? (ad.add 1) = some (.int k (y : Int)) := by
  obtain ⟨A, c, hv, _, _, _, hs⟩ := h
  obtain ⟨ad, hA, hb, hx⟩ := hs (by simp)
  subst hA
  exact ⟨ad, c, hv, hb, hx 0 (by simp), hx 1 (by simp)⟩
theorem keep_cell {W w : World} {a : Addr} {i : Nat} {u : Value} (h : W.cell? (a.add i) = some u) (hb : a.block < W.heap.size) (g : Bl W w) : w.cell? (a.add i) = some u := (g.cell (by rw [blk_add]; exact hb)).trans h
/-- The highest place of a row. -/
theorem src_last {k : IntKind} {w : World} {A : Option Addr} {l : List Nat} {j n x : Nat} (h : Src k w A l) (hx : l[j]? = some x) (hn : l.length = n) : ∃ ad, A = some ad ∧ w.cell? (ad.add j) = some (.int k (x : Int)) := by
  obtain ⟨hj, e⟩ := List.getElem?_eq_some_iff.1 hx
  obtain ⟨ad, ha, hc⟩ := h.at_ hj
  rw [e] at hc
  exact ⟨ad, ha, hc⟩
end Go.Proofs.Yteoeaogfeblokaa
