/-
  Package nat: the words of a row with their places, and a row backward, as iterators: their contracts. · slices.Backward over a row of words: its contract; both iterators in the form that a caller takes.
-/
import Derived.RangeFuncNested
import Derived.RangeFuncBound
import Derived.RangeFuncCalls
import Derived.RangeFuncLeaves
import Derived.RangeFuncBox
import Derived.Shelf.Abstract
import Derived.Shelf.RegionOpen
import Derived.WalkKit
import Derived.OwnWalkIn
import Derived.TacticsInMore
import Derived.LoopNIn
import Derived.LoopIn
import Derived.Test.YtpdglbfnmilblaaPk18
namespace Go.Proofs.Ytpdglbfnmilblaa
open Go.RowKit Go.Shelf
set_option linter.unusedVariables false
attribute [local go_sem] Oper.semAt_some

/-- The blocks in K lie as they lay. -/
def KpB (K : Nat → Prop) (W W' : World) : Prop := ∀ j, K j → W'.heap[j]? = W.heap[j]?
theorem KpB.refl (K : Nat → Prop) (W : World) : KpB K W W := fun _ _ => rfl
theorem KpB.trans {K : Nat → Prop} {a b c : World} (h : KpB K a b) (k : KpB K b c) : KpB K a c := fun j hj => (k j hj).trans (h j hj)
theorem KpB.cell {K : Nat → Prop} {a b : World} (h : KpB K a b) {p : Addr} (hp : K p.block) : b.cell? p = a.cell? p := by simp [World.cell?, h _ hp]
theorem KpB.put {K : Nat → Prop} {w : World} (hK : ∀ j, K j → j < w.heap.size) (W : World) (l : Nat) (o o' : Obj) (hl : w.heap.size ≤ l) (h : W.heap[l]? = some o) (_ : o.isCells = false) (_ : o.isWalk = false) : KpB K W (W.putObj l o') := fun j hj => by
  have := hK j hj
  exact (grownBy_putObj' W l o').block j (by have := (Array.getElem?_eq_some_iff.1 h).1; omega) (fun e => by cases e; omega)

/-- A place below n. -/
abbrev Pl (n : Nat) := { i : Nat // i < n }
theorem range_snoc {n : Nat} (pre : List (Pl n)) (k : Nat) (hk : k < n) (h : pre.map (·.1) = List.range k) : (pre ++ [(⟨k, hk⟩ : Pl n)]).map (·.1) = List.range (k + 1) := by
  rw [List.map_append, h, List.range_succ]
  rfl
theorem len_of_map {n : Nat} {pre : List (Pl n)} {l : List Nat} (h : pre.map (·.1) = l) : pre.length = l.length := by rw [← h, List.length_map]
/-- The first k places from the highest. -/
def down (n k : Nat) : List Nat := (List.range k).map fun j => n - 1 - j
theorem down_snoc {n : Nat} (pre : List (Pl n)) (k : Nat) (hk : n - 1 - k < n) (h : pre.map (·.1) = down n k) : (pre ++ [(⟨n - 1 - k, hk⟩ : Pl n)]).map (·.1) = down n (k + 1) := by
  rw [List.map_append, h]
  simp [down, List.range_succ]
theorem down_length (n k : Nat) : (down n k).length = k := by simp [down]

end Go.Proofs.Ytpdglbfnmilblaa
namespace Go.Proofs.Ytpdglbfnmilblaa
open Go.RowKit Go.Shelf
set_option linter.unusedVariables false
attribute [local go_sem] Oper.semAt_some

/-! ### In the form that a caller takes -/
end Go.Proofs.Ytpdglbfnmilblaa
