/-
  QuotWhole returns true for every input, whatever the numbers and the slices: no condition. (The frame, for parameters that are slices of words, numbers and structs of them: RowS; the walk: quotWhole_walk of YtdoohlehglakfaaQuLz.)
-/
import Derived.Test.YtdoohlehglakfaaRows
import Derived.WalkKit
import Derived.ProofKit
import Derived.OpenShut
import Derived.Test.YtdoohlehglakfaaRowZ
import Derived.SizedLaws
import Derived.Test.YtdoohlehglakfaaPk36
namespace Go.Proofs.Ytdoohlehglakfaa.quotWhole
open Go.ChangeShapes Go.WideShapes Go.ChangeAt Go.RowKit
set_option linter.unusedVariables false

theorem own : ownKnob Try.prog.godebug = none := by kernel_rfl
theorem laid : laidOutB Try.prog = true := by kernel_rfl

set_option maxRecDepth 100000 in
theorem lifted (os : Os) (started : os.Started) (H : Type) (enc : TypeId × Value → H) :
    ReturnsInHanded {} Try.checked os 3 .any (Rows.quotWholeSpec.pre6 enc Try.prog Try.f3 Rows.quotWholeRow.domain false) (Rows.quotWholeSpec.post enc Try.prog Try.f3 false true false false) := by
  refine returnsInHanded_of_change_sized (C := Try.checked) own started (by kernel_rfl) Try.func3
    (ChangeSpec.witness6 (enc := enc) (C := Try.checked) false ⟨#[], #[.slice none 0 0, .slice none 0 0], []⟩ 8 (by kernel_rfl) (by kernel_rfl) (by kernel_rfl) (by kernel_rfl)) ?_
  intro W base args ds gs before hval0 hW hcnd hsz _
  have hval : ∀ (j : Nat) t v, Try.f3.params[j]? = some t → args[j]? = some v → Value.okWide Try.prog W .any base t v := hval0
  have hW' := hW
  obtain ⟨p, q, hA0, hV, rfl, hfz, hnd⟩ := hW
  have hA : DataW.TrodAll enc Try.prog W 0 (fun _ => true) true Try.f3.params.toList args.toList ds p := hA0
  rw [Try.params3] at hA hval
  obtain ⟨v0, vs0, d0, ds0, p0, q0, hargs, rfl, rfl, h0, r0'⟩ := trodAll_cons hA
  obtain ⟨v1, vs1, d1, ds1, p1, q1, rfl, rfl, rfl, h1, r1'⟩ := trodAll_cons r0'
  obtain ⟨rfl, rfl, rfl⟩ := trodAll_nil r1'
  obtain rfl : args = #[v0, v1] := by cases args; simp_all
  clear hA0 hval0
  obtain ⟨l0, r0, b0, z0⟩ := open_rowz Try.underlying22 Try.underlying33 (by kernel_rfl) (by kernel_rfl) hsz (j := 0) (by rw [Try.params3]; rfl) (by rfl) (hval 0 22 _ rfl rfl) h0
  obtain ⟨l1, r1, b1, z1⟩ := open_rowz Try.underlying22 Try.underlying33 (by kernel_rfl) (by kernel_rfl) hsz (j := 1) (by rw [Try.params3]; rfl) (by rfl) (hval 1 22 _ rfl rfl) h1
  have C : Calls Try.prog 3 #[v0, v1] W fun e w' => e = .returned (.bool true) ∧ Bl W w' := quotWhole_walkz v0 l0 v1 l1 b0 b1 W r0 r1 z0 z1
  refine C.mono fun e W' ⟨he, hg⟩ => ?_
  subst he
  exact ⟨_, rfl, law_post laid hW' rfl rfl rfl Try.underlying4 (by rw [Try.params3]; intro t ht; simp at ht; (repeat' (first | subst ht | (rcases ht with rfl | ht))) <;> exact ⟨by kernel_rfl, of_decide_eq_true (by kernel_rfl)⟩) hg⟩

theorem over : Rows.quotWholeRow.holds Try.pinned (OpenSpec.ofChange Rows.quotWholeSpec) :=
  OpenClaim.holds_of_wide 3 Try.f3 rfl rfl rfl rfl rfl rfl rfl ⟨rfl, rfl, rfl, rfl, rfl⟩ rfl rfl rfl rfl rfl (by kernel_rfl) Try.func3 (by kernel_rfl)
    (of_decide_eq_true (by kernel_rfl)) (by unfold Func.isWrapper; first | (rw [if_pos (by decide +kernel)]; kernel_rfl) | (rw [if_neg (by decide +kernel)]; exact ⟨rfl, rfl⟩))
    (fun os started H enc _ => lifted os started H enc)

theorem proved : Rows.QuotWholeSaid :=
  over
#print axioms proved
end Go.Proofs.Ytdoohlehglakfaa.quotWhole
