/-
  What the conditions on the library's tables give; the door's own heap meets them.
-/
import Derived.Test.YtdaglbjdgdokpaaDoorKpA
import Derived.Test.YtdaglbjdgdokpaaDoorRows
import Derived.ProofKit
import Derived.LaidMore
import Derived.LaidHandle
import Derived.OpenShut
import Derived.Stop.Joined
import Derived.Stop.LaidErr
namespace Go.Proofs.YtdaglbjdgdokpaaDoor
open Go.ChangeShapes Go.WideShapes Go.ChangeAt Go.RowKit
set_option linter.unusedVariables false

abbrev laidT : List (String × DataW Unit) := [("math/bits.deBruijn32tab", Rows.laid_math_bits_deBruijn32tab), ("math/bits.deBruijn64tab", Rows.laid_math_bits_deBruijn64tab), ("internal/strconv.uint64pow10", Rows.laid_internal_strconv_uint64pow10)]
theorem tab_pow : (Rows.laid_internal_strconv_uint64pow10 : DataW Unit) = Lib.tabData .u64 Lib.pow10Tab := by kernel_rfl
theorem pow_of_met {W : World} (h : laidMet Tryd.prog laidT W) : PowT W := by
  have h3 := h.tail.tail
  rw [tab_pow] at h3
  exact Lib.tabIs_of_head gPow (t := 143) (by kernel_rfl) Tryd.underlying143 Tryd.underlying68 (by kernel_rfl) (by kernel_rfl) h3
theorem pow_of_laidT {W : World} (h : laidMetH Tryd.prog laidT W) : PowT W := pow_of_met h
set_option maxRecDepth 100000 in
/-- The door's own heap meets the conditions. -/
theorem door_metT (os : Os) (args : Array Value) : laidMetH Tryd.prog laidT ((World.doorLaid Tryd.prog 31 os).forCall (fun _ _ => 0) ⟨#[], args, []⟩).memory :=
  laidMetH_of_parts3 (fuel := 8) (laidMet_of_run' 8 (by kernel_rfl) (by kernel_rfl)) (by kernel_rfl) (by kernel_rfl)
end Go.Proofs.YtdaglbjdgdokpaaDoor
