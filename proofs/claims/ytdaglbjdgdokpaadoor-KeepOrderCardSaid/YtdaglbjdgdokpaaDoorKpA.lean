/-
  Package keep's names of ranges: decimal, joined, Name.
-/
import Derived.Test.YtdaglbjdgdokpaaDoorSh
import Derived.Test.YtdaglbjdgdokpaaDoorKpMa
import Derived.Test.YtdaglbjdgdokpaaDoorCrP
import Derived.Lib.SmallJoins
import Derived.Lib.AppendIntMem
import Derived.Laws.Small
import Derived.Deep.RegionWith
namespace Go.Proofs.YtdaglbjdgdokpaaDoor
open Go.RowKit
set_option linter.unusedVariables false
set_option linter.unusedSimpArgs false

/-- The library's table of powers of ten reads as its text lays it. -/
def PowT (w : World) : Prop := Lib.TabIs Tryd.prog w "internal/strconv.uint64pow10" .u64 Lib.pow10Tab
theorem gPow : Tryd.prog.globalNamed "internal/strconv.uint64pow10" = some 2 := by kernel_rfl
theorem PowT.bl {w w' : World} (h : PowT w) (g : Bl w w') : PowT w' := Joins.tab_stays gPow h g (Nat.le_refl _)
theorem dec_figs (n : Nat) : Lib.decDigits n = (figs n).map UInt8.ofNat := by
  induction n using Nat.strongRecOn with
  | ind n ih =>
    by_cases h : n < 10
    · rw [Lib.decDigits, dif_pos h, figs_small h]; rfl
    · rw [Lib.decDigits, dif_neg h, figs_big h, List.map_append, ih (n / 10) (by omega)]; rfl
theorem itoa_figs (n : Nat) : (⟨(Lib.itoa (n : Int)).toArray⟩ : ByteArray) = bs (figs n) := by
  unfold Lib.itoa bs
  rw [if_neg (by omega), show ((n : Int)).toNat = n from rfl, dec_figs]
theorem pitoa_any (n : Nat) (h : n ≤ 9223372036854775807) (w : World) (hT : PowT w) : Calls Tryd.prog 28 #[.int .i64 (n : Int)] w fun e w' => e = .returned (.string (bs (figs n))) ∧ Bl w w' := by
  refine (Any.strconv_Itoa Tryd.laysM171 (n : Int) (by omega) (by omega) w hT).mono fun e w' hx => ?_
  obtain ⟨he, k, os, hw⟩ := hx
  exact ⟨by rw [he, itoa_figs], by rw [hw]; exact Lib.below_grow w.heap.size w (Nat.le_refl _) k os⟩
set_option maxRecDepth 100000 in
theorem pdecimal_any (n : Nat) (h : n ≤ 9223372036854775807) (w : World) (hT : PowT w) : Calls Tryd.prog 19 #[.int .i64 (n : Int)] w fun e w' => e = .returned (.string (bs (figs n))) ∧ Bl w w' := by
  have K := Lib.hid (pitoa_any n h w hT)
  have h0 : ¬ ((n : Int) < 0) := by omega
  go_enter Tryd.func19, Tryd.ntmps19
  go_wp2_with (go_at_call 28; (with_reducible refine K.out.mono ?_); rintro e w1 ⟨rfl, hb⟩)
  go_ret
  exact ⟨rfl, hb⟩
end Go.Proofs.YtdaglbjdgdokpaaDoor
