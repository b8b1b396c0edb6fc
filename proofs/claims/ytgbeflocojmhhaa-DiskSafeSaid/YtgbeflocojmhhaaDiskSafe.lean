/-
  DiskSafe returns true for every input: no condition. (The frame: RowS, DkW, DkWs; the walk: diskSafe_walk of YtgbeflocojmhhaaDkLg.)
-/
import Derived.Test.YtgbeflocojmhhaaRows
import Derived.Test.YtgbeflocojmhhaaRowS
import Derived.Test.YtgbeflocojmhhaaDkWs
import Derived.Test.YtgbeflocojmhhaaDkLg
import Derived.WalkKit
import Derived.ProofKit
import Derived.OpenShut
namespace Go.Proofs.Ytgbeflocojmhhaa.diskSafe
open Go.ChangeShapes Go.WideShapes Go.ChangeAt Go.RowKit
set_option linter.unusedVariables false

theorem own : ownKnob Try.prog.godebug = none := by kernel_rfl
theorem laid : laidOutB Try.prog = true := by kernel_rfl

set_option maxRecDepth 100000 in
theorem lifted (os : Go.Os) (started : os.Started) (H : Type) (enc : TypeId × Value → H) :
    ReturnsInHanded {} Try.checked os 4 .any (Rows.diskSafeSpec.pre6 enc Try.prog Try.f4 Rows.diskSafeRow.domain false) (Rows.diskSafeSpec.post enc Try.prog Try.f4 false true false false) := by
  refine returnsInHanded_of_change_sized (C := Try.checked) own started (by kernel_rfl) Try.func4
    (ChangeSpec.witness6 (enc := enc) (C := Try.checked) false ⟨#[], #[.agg #[.int .i64 0, .slice none 0 0], .string { data := #[] }, .slice none 0 0], []⟩ 8 (by kernel_rfl) (by kernel_rfl) (by kernel_rfl) (by kernel_rfl)) ?_
  intro W base args ds gs before hval0 hW _ hS _
  have hval : ∀ (j : Nat) t v, Try.f4.params[j]? = some t → args[j]? = some v → Value.okWide Try.prog W .any base t v := hval0
  have hW' := hW
  obtain ⟨p, q, hA0, hV, rfl, hfz, hnd⟩ := hW
  have hA : DataW.TrodAll enc Try.prog W 0 (fun _ => true) true Try.f4.params.toList args.toList ds p := hA0
  rw [Try.params4] at hA hval
  obtain ⟨v0, vs0, d0, ds0, p0, q0, hargs, rfl, rfl, h0, r0'⟩ := trodAll_cons hA
  obtain ⟨v1, vs1, d1, ds1, p1, q1, rfl, rfl, rfl, h1, r1'⟩ := trodAll_cons r0'
  obtain ⟨v2, vs2, d2, ds2, p2, q2, rfl, rfl, rfl, h2, r2'⟩ := trodAll_cons r1'
  obtain ⟨rfl, rfl, rfl⟩ := trodAll_nil r2'
  obtain rfl : args = #[v0, v1, v2] := by cases args; simp_all
  clear hA0 hval0
  obtain ⟨room0, u0, l0, rfl, hb0, hf0, hz0⟩ := open_disk hS (j := 0) (by rw [Try.params4]; rfl) rfl (hval 0 24 _ rfl rfl) h0
  obtain ⟨s1, ls1, rfl⟩ : ∃ s, s.size ≤ 140737488355328 ∧ v1 = .string s := by obtain ⟨s, e, h⟩ := open_str hS (j := 1) (by rw [Try.params4]; rfl) rfl (hval 1 9 _ rfl rfl) h1; exact ⟨s, h, e⟩
  obtain ⟨l2, rd2, al2⟩ := open_masks (hval 2 25 _ rfl rfl) h2
  have C : Calls Try.prog 4 #[.agg #[.int .i64 room0, u0], .string s1, v2] W fun e w' => e = .returned (.bool true) ∧ Bl W w' := diskSafe_walk room0 u0 l0 hb0 hz0 s1 ls1 v2 l2 al2 W hf0 rd2
  refine C.mono fun e W' ⟨he, hg⟩ => ?_
  subst he
  exact ⟨_, rfl, law_post laid hW' rfl rfl rfl Try.underlying4 (by rw [Try.params4]; intro t ht; simp at ht; (repeat' (first | subst ht | (rcases ht with rfl | ht))) <;> exact ⟨by kernel_rfl, of_decide_eq_true (by kernel_rfl)⟩) hg⟩

theorem over : Rows.diskSafeRow.holds Try.pinned (OpenSpec.ofChange Rows.diskSafeSpec) :=
  OpenClaim.holds_of_wide 4 Try.f4 rfl rfl rfl rfl rfl rfl rfl ⟨rfl, rfl, rfl, rfl, rfl⟩ rfl rfl rfl rfl rfl (by kernel_rfl) Try.func4 (by kernel_rfl)
    (of_decide_eq_true (by kernel_rfl)) (by unfold Func.isWrapper; first | (rw [if_pos (by decide +kernel)]; kernel_rfl) | (rw [if_neg (by decide +kernel)]; exact ⟨rfl, rfl⟩))
    (fun os started H enc _ => lifted os started H enc)

theorem proved : Rows.DiskSafeSaid :=
  over
#print axioms proved
end Go.Proofs.Ytgbeflocojmhhaa.diskSafe
