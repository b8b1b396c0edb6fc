/-
  ProdAdds returns true for every input, whatever the numbers and the slices: no condition. (The frame, for parameters that are slices of words, numbers and structs of them: RowS; the walk: prodAdds_walk of YteoeaogfeblokaaProdLb.)
-/
import Derived.Test.YteoeaogfeblokaaRows
import Derived.WalkKit
import Derived.ProofKit
import Derived.OpenShut
import Derived.Test.YteoeaogfeblokaaRowS
import Derived.Test.YteoeaogfeblokaaProdLb
namespace Go.Proofs.Yteoeaogfeblokaa.prodAdds
open Go.ChangeShapes Go.WideShapes Go.ChangeAt Go.RowKit
set_option linter.unusedVariables false

theorem own : ownKnob Try.prog.godebug = none := by kernel_rfl
theorem laid : laidOutB Try.prog = true := by kernel_rfl

set_option maxRecDepth 100000 in
theorem lifted (os : Os) (started : os.Started) (H : Type) (enc : TypeId × Value → H) :
    ReturnsInHanded {} Try.checked os 4 .any (Rows.prodAddsSpec.pre6 enc Try.prog Try.f4 Rows.prodAddsRow.domain false) (Rows.prodAddsSpec.post enc Try.prog Try.f4 false true false false) := by
  refine returnsInHanded_of_change (C := Try.checked) own started (by kernel_rfl) Try.func4
    (ChangeSpec.witness6 (enc := enc) (C := Try.checked) false ⟨#[], #[.agg #[.slice none 0 0, .slice none 0 0, .int .u64 0, .int .i64 0, .int .i64 0]], []⟩ 8 (by kernel_rfl) (by kernel_rfl) (by kernel_rfl) (by kernel_rfl)) ?_
  intro W base args ds gs before hval0 hW hcnd _
  have hval : ∀ (j : Nat) t v, Try.f4.params[j]? = some t → args[j]? = some v → Value.okWide Try.prog W .any base t v := hval0
  have hW' := hW
  obtain ⟨p, q, hA0, hV, rfl, hfz, hnd⟩ := hW
  have hA : DataW.TrodAll enc Try.prog W 0 (fun _ => true) true Try.f4.params.toList args.toList ds p := hA0
  rw [Try.params4] at hA hval
  obtain ⟨v0, vs0, d0, ds0, p0, q0, hargs, rfl, rfl, h0, r0'⟩ := trodAll_cons hA
  obtain ⟨rfl, rfl, rfl⟩ := trodAll_nil r0'
  obtain rfl : args = #[v0] := by cases args; simp_all
  clear hA0 hval0
  obtain ⟨u0_0, u0_1, u0_2, u0_3, u0_4, rfl, ⟨_, _, g0_0⟩, ⟨_, _, g0_1⟩, ⟨_, _, g0_2⟩, ⟨_, _, g0_3⟩, ⟨_, _, g0_4⟩⟩ := open_struct5 Try.underlying31 (by kernel_rfl) (by kernel_rfl) (hval 0 31 _ rfl rfl) h0
  obtain ⟨l0, r0, b0⟩ := row_of Try.underlying22 Try.underlying29 (by kernel_rfl) g0_0
  obtain ⟨l1, r1, b1⟩ := row_of Try.underlying22 Try.underlying29 (by kernel_rfl) g0_1
  obtain ⟨a2, rfl, w2⟩ := int_of Try.underlying29 g0_2
  obtain ⟨n2, rfl, b2⟩ := u64_nat w2
  obtain ⟨a3, rfl, w3⟩ := int_of Try.underlying3 g0_3
  have b3 := bounds_i64 w3
  obtain ⟨a4, rfl, w4⟩ := int_of Try.underlying3 g0_4
  have b4 := bounds_i64 w4
  have C : Calls Try.prog 4 #[.agg #[u0_0, u0_1, .int .u64 (n2 : Int), .int .i64 a3, .int .i64 a4]] W fun e w' => e = .returned (.bool true) ∧ Bl W w' := prodAdds_walk u0_0 l0 u0_1 l1 n2 a3 a4 b0 b1 b2 b3 b4 W r0 r1
  refine C.mono fun e W' ⟨he, hg⟩ => ?_
  subst he
  exact ⟨_, rfl, law_post laid hW' rfl rfl rfl Try.underlying4 (by rw [Try.params4]; intro t ht; simp at ht; (repeat' (first | subst ht | (rcases ht with rfl | ht))) <;> exact ⟨by kernel_rfl, of_decide_eq_true (by kernel_rfl)⟩) hg⟩

theorem over : Rows.prodAddsRow.holds Try.pinned (OpenSpec.ofChange Rows.prodAddsSpec) :=
  OpenClaim.holds_of_wide 4 Try.f4 rfl rfl rfl rfl rfl rfl rfl ⟨rfl, rfl, rfl, rfl, rfl⟩ rfl rfl rfl rfl rfl (by kernel_rfl) Try.func4 (by kernel_rfl)
    (of_decide_eq_true (by kernel_rfl)) (by unfold Func.isWrapper; first | (rw [if_pos (by decide +kernel)]; kernel_rfl) | (rw [if_neg (by decide +kernel)]; exact ⟨rfl, rfl⟩))
    (fun os started H enc _ => lifted os started H enc)

theorem proved : Rows.ProdAddsSaid :=
  over
#print axioms proved
end Go.Proofs.Yteoeaogfeblokaa.prodAdds
