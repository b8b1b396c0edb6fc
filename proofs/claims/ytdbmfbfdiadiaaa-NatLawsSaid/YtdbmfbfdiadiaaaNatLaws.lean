/-
  NatLaws returns true for every input, whatever the numbers and the slices: no condition. (The frame, for parameters that are slices of words, numbers and structs of them: RowS; the walk: natLaws_walk of YtdbmfbfdiadiaaaNatXg.)
-/
import Derived.Test.YtdbmfbfdiadiaaaRows
import Derived.WalkKit
import Derived.ProofKit
import Derived.OpenShut
import Derived.Test.YtdbmfbfdiadiaaaRowS
import Derived.Test.YtdbmfbfdiadiaaaNatXg
namespace Go.Proofs.Ytdbmfbfdiadiaaa.natLaws
open Go.ChangeShapes Go.WideShapes Go.ChangeAt Go.RowKit
set_option linter.unusedVariables false

theorem own : ownKnob Try.prog.godebug = none := by kernel_rfl
theorem laid : laidOutB Try.prog = true := by kernel_rfl

set_option maxRecDepth 100000 in
theorem lifted (os : Os) (started : os.Started) (H : Type) (enc : TypeId × Value → H) :
    ReturnsInHanded {} Try.checked os 8 .any (Rows.natLawsSpec.pre6 enc Try.prog Try.f8 Rows.natLawsRow.domain false) (Rows.natLawsSpec.post enc Try.prog Try.f8 false true false false) := by
  refine returnsInHanded_of_change (C := Try.checked) own started (by kernel_rfl) Try.func8
    (ChangeSpec.witness6 (enc := enc) (C := Try.checked) false ⟨#[], #[.agg #[.slice none 0 0, .slice none 0 0, .slice none 0 0, .int .u64 0]], []⟩ 8 (by kernel_rfl) (by kernel_rfl) (by kernel_rfl) (by kernel_rfl)) ?_
  intro W base args ds gs before hval0 hW hcnd _
  have hval : ∀ (j : Nat) t v, Try.f8.params[j]? = some t → args[j]? = some v → Value.okWide Try.prog W .any base t v := hval0
  have hW' := hW
  obtain ⟨p, q, hA0, hV, rfl, hfz, hnd⟩ := hW
  have hA : DataW.TrodAll enc Try.prog W 0 (fun _ => true) true Try.f8.params.toList args.toList ds p := hA0
  rw [Try.params8] at hA hval
  obtain ⟨v0, vs0, d0, ds0, p0, q0, hargs, rfl, rfl, h0, r0'⟩ := trodAll_cons hA
  obtain ⟨rfl, rfl, rfl⟩ := trodAll_nil r0'
  obtain rfl : args = #[v0] := by cases args; simp_all
  clear hA0 hval0
  obtain ⟨u0_0, u0_1, u0_2, u0_3, rfl, ⟨_, _, g0_0⟩, ⟨_, _, g0_1⟩, ⟨_, _, g0_2⟩, ⟨_, _, g0_3⟩⟩ := open_struct4 Try.underlying53 (by kernel_rfl) (by kernel_rfl) (hval 0 53 _ rfl rfl) h0
  obtain ⟨l0, r0, b0⟩ := row_of Try.underlying22 Try.underlying23 (by kernel_rfl) g0_0
  obtain ⟨l1, r1, b1⟩ := row_of Try.underlying22 Try.underlying23 (by kernel_rfl) g0_1
  obtain ⟨l2, r2, b2⟩ := row_of Try.underlying22 Try.underlying23 (by kernel_rfl) g0_2
  obtain ⟨a3, rfl, w3⟩ := int_of Try.underlying23 g0_3
  obtain ⟨n3, rfl, b3⟩ := u64_nat w3
  have C : Calls Try.prog 8 #[.agg #[u0_0, u0_1, u0_2, .int .u64 (n3 : Int)]] W fun e w' => e = .returned (.bool true) ∧ Bl W w' := natLaws_walk u0_0 l0 u0_1 l1 u0_2 l2 n3 b0 b1 b2 b3 W r0 r1 r2
  refine C.mono fun e W' ⟨he, hg⟩ => ?_
  subst he
  exact ⟨_, rfl, law_post laid hW' rfl rfl rfl Try.underlying4 (by rw [Try.params8]; intro t ht; simp at ht; (repeat' (first | subst ht | (rcases ht with rfl | ht))) <;> exact ⟨by kernel_rfl, of_decide_eq_true (by kernel_rfl)⟩) hg⟩

theorem over : Rows.natLawsRow.holds Try.pinned (OpenSpec.ofChange Rows.natLawsSpec) :=
  OpenClaim.holds_of_wide 8 Try.f8 rfl rfl rfl rfl rfl rfl rfl ⟨rfl, rfl, rfl, rfl, rfl⟩ rfl rfl rfl rfl rfl (by kernel_rfl) Try.func8 (by kernel_rfl)
    (of_decide_eq_true (by kernel_rfl)) (by unfold Func.isWrapper; first | (rw [if_pos (by decide +kernel)]; kernel_rfl) | (rw [if_neg (by decide +kernel)]; exact ⟨rfl, rfl⟩))
    (fun os started H enc _ => lifted os started H enc)

theorem proved : Rows.NatLawsSaid :=
  over
#print axioms proved
end Go.Proofs.Ytdbmfbfdiadiaaa.natLaws
