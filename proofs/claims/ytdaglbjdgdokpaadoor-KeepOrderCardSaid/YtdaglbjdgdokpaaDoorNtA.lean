/-
  The document's rows of digits (layer 4): Trim.
-/
import Derived.Test.YtdaglbjdgdokpaaDoorChecked
import Derived.Test.YtdaglbjdgdokpaaDoorNtM
import Derived.Test.YtdaglbjdgdokpaaDoorNtW
namespace Go.Proofs.YtdaglbjdgdokpaaDoor
open Go.RowKit
set_option linter.unusedVariables false

theorem Tryd.infoInt : (Tryd.prog.info? 3).map (fun i => (i.zero, i.size, i.bytes)) = some (some (.int .i64 0), 1, 8) := by kernel_rfl

/-- What a call answers that hands back a row. -/
def RwEnd (k : IntKind) (W : World) (l : List Nat) (e : Ending) (w : World) : Prop := ∃ v, e = .returned v ∧ Rw k w v l ∧ Bl W w
theorem RwEnd.mk {k : IntKind} {W w : World} {l : List Nat} {v : Value} (h : Rw k w v l) (g : Bl W w) : RwEnd k W l (.returned v) w := ⟨v, rfl, h, g⟩
theorem RwEnd.of {k : IntKind} {W w : World} {l m : List Nat} {v : Value} (h : Rw k w v m) (g : Bl W w) (e : m = l) : RwEnd k W l (.returned v) w := ⟨v, rfl, e ▸ h, g⟩

/-- .. a row of its own. -/
def RwEndF (k : IntKind) (W : World) (l : List Nat) (e : Ending) (w : World) : Prop := ∃ v, e = .returned v ∧ Rw k w v l ∧ Bl W w ∧ Fs W.heap.size v
theorem RwEndF.of {k : IntKind} {W w : World} {e : TypeId} {l m : List Nat} {v : Value} (h : Ow k e W.heap.size w v m) (g : Bl W w) (e' : m = l) : RwEndF k W l (.returned v) w :=
  ⟨v, rfl, e' ▸ h.rw, g, fun b hb => (World.ownsRow.lt h b hb).1⟩
theorem RwEndF.weak {k : IntKind} {W w : World} {l : List Nat} {e : Ending} (h : RwEndF k W l e w) : RwEnd k W l e w := by
  obtain ⟨v, h1, h2, h3, _⟩ := h
  exact ⟨v, h1, h2, h3⟩

end Go.Proofs.YtdaglbjdgdokpaaDoor
