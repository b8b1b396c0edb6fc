/-
  The frame of layer 16's statements: parameters that are ranges.
-/
import Derived.Test.YtdaglbjdgdokpaaDoorRowS
import Derived.Test.YtdaglbjdgdokpaaDoorChecked
import Derived.SizedLaws
import Derived.ChangeMaps5
namespace Go.Proofs.YtdaglbjdgdokpaaDoor
open Go.ChangeShapes Go.WideShapes Go.ChangeAt Go.RowKit Go.ChangeMaps
set_option linter.unusedVariables false
set_option maxRecDepth 100000

section
variable {H : Type} {enc : TypeId × Value → H}
theorem open_range {W : World} {base : Nat} {r : Reach} {b0 : Nat} {v : Value} {d : DataW H} {p : List MemPlace} (hval : Value.okWide Tryd.prog W r b0 34 v) (h : DataW.Trod enc Tryd.prog W base (fun _ => true) true 34 v d p) :
    ∃ a b : Int, v = .agg #[.int .i64 a, .int .i64 b] ∧ (-9223372036854775808 ≤ a ∧ a ≤ 9223372036854775807) ∧ (-9223372036854775808 ≤ b ∧ b ≤ 9223372036854775807) := by
  obtain ⟨cs, rfl, _⟩ := okWide_struct Tryd.underlying34 hval
  obtain ⟨fuel, hf⟩ := h
  obtain ⟨xs, m', e', _, hl, hx, hg⟩ := DataW.trod_struct Tryd.underlying34 hf
  rw [show Tryd.prog.cellsOf 34 = 2 by kernel_rfl] at hl
  have c1 : Tryd.prog.cellsOf 3 = 1 := by kernel_rfl
  obtain ⟨l⟩ := cs
  match l, hl, xs, hx with
  | [u0, u1], _, [y0, y1], _ =>
    have g0 : DataW.trod enc Tryd.prog W base (fun _ => true) true m' 3 ((([u0, u1] : List Value).drop 0).take (Tryd.prog.cellsOf 3)) = some y0 := hg 0 _ rfl
    rw [c1] at g0
    have g1 : DataW.trod enc Tryd.prog W base (fun _ => true) true m' 3 ((([u0, u1] : List Value).drop 1).take (Tryd.prog.cellsOf 3)) = some y1 := hg 1 _ rfl
    rw [c1] at g1
    obtain ⟨a, e0, _, w0⟩ := DataW.trod_int Tryd.underlying3 g0
    obtain ⟨b, e1, _, w1⟩ := DataW.trod_int Tryd.underlying3 g1
    simp at e0 e1
    exact ⟨a, b, by rw [e0, e1], bounds_i64 w0, bounds_i64 w1⟩
end
end Go.Proofs.YtdaglbjdgdokpaaDoor
