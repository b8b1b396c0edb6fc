/-
  MontReckons returns true for every input, whatever the numbers: no condition. (The frame is the kit's shell for this statement; the walk is montReckons_walk of YtpdbdnhjibkflaaMontLd.)
-/
import Derived.Test.YtpdbdnhjibkflaaRows
import Derived.WalkKit
import Derived.ProofKit
import Derived.OpenShut
import Derived.Test.YtpdbdnhjibkflaaMontLd
import Derived.Test.YtpdbdnhjibkflaaWordU
import Derived.Test.YtpdbdnhjibkflaaInts5
namespace Go.Proofs.Ytpdbdnhjibkflaa.montReckons
open Go.ChangeShapes Go.WideShapes Go.ChangeAt Go.RowKit
set_option linter.unusedVariables false      -- a walk need not use every 'w<i>' (that an integer argument fits its kind)

theorem own : ownKnob Try.prog.godebug = none := by kernel_rfl

theorem walk (a0 : Int) (a1 : Int) (a2 : Int) (a3 : Int) (a4 : Int) (w0 : (Lit.int .u32 a0).wf = true) (w1 : (Lit.int .u64 a1).wf = true) (w2 : (Lit.int .u32 a2).wf = true) (w3 : (Lit.int .u64 a3).wf = true) (w4 : (Lit.int .u64 a4).wf = true) (w : World) :
    Calls Try.prog 4 #[.agg #[.int .u32 a0, .int .u64 a1, .int .u32 a2, .int .u64 a3, .int .u64 a4]] w fun e w' => e = .returned (.bool true) ∧ Grown w w' := by
  obtain ⟨n0, rfl, h0⟩ := u32_nat w0
  obtain ⟨n1, rfl, h1⟩ := u64_nat w1
  obtain ⟨n2, rfl, h2⟩ := u32_nat w2
  obtain ⟨n3, rfl, h3⟩ := u64_nat w3
  obtain ⟨n4, rfl, h4⟩ := u64_nat w4
  exact (montReckons_walk n0 n1 n2 n3 n4 h0 h1 h2 h3 h4 w).mono fun _ _ ⟨he, hq⟩ => ⟨he, hq.grown⟩

set_option maxRecDepth 100000 in
theorem lifted (os : Os) (started : os.Started) (H : Type) (enc : TypeId × Value → H) :
    ReturnsInHanded {} Try.checked os 4 .any (Rows.montReckonsSpec.pre6 enc Try.prog Try.f4 Rows.montReckonsRow.domain false) (Rows.montReckonsSpec.post enc Try.prog Try.f4 false true false false) := by
  refine returnsInHanded_of_change (C := Try.checked) own started (by kernel_rfl) Try.func4
    (ChangeSpec.witness6 (enc := enc) (C := Try.checked) false ⟨#[], #[.agg #[.int .u32 0, .int .u64 0, .int .u32 0, .int .u64 0, .int .u64 0]], []⟩ 8 (by kernel_rfl) (by kernel_rfl) (by kernel_rfl) (by kernel_rfl)) ?_
  intro W base args ds gs before hval0 hW hcnd _
  have hval : ∀ (j : Nat) t v, Try.f4.params[j]? = some t → args[j]? = some v → Value.okWide Try.prog W .any base t v := hval0
  have hW' := hW
  obtain ⟨p, q, hA0, hV, rfl, hfz, hnd⟩ := hW
  have hA : DataW.TrodAll enc Try.prog W 0 (fun _ => true) true Try.f4.params.toList args.toList ds p := hA0
  rw [Try.params4] at hA hval
  obtain ⟨v0, vs0, d0, ds0, p0, q0, hargs, rfl, rfl, h0, r0⟩ := trodAll_cons hA
  obtain ⟨rfl, rfl, rfl⟩ := trodAll_nil r0
  obtain rfl : args = #[v0] := by cases args; simp_all
  obtain ⟨rfl, rfl⟩ := trodVars_none hV
  obtain ⟨a0, a1, a2, a3, a4, rfl, rfl, rfl, w0, w1, w2, w3, w4, hr⟩ := ints5 Try.underlying34 (by kernel_rfl) (by kernel_rfl) Try.underlying22 Try.underlying32 Try.underlying22 Try.underlying32 Try.underlying32 (hval 0 34 v0 rfl rfl) h0
  clear hA0 hval0
  simp only [List.append_nil] at hW'
  refine (walk a0 a1 a2 a3 a4 w0 w1 w2 w3 w4 W).mono fun e W' ⟨he, hg⟩ => ?_
  subst he
  exact ⟨_, rfl, post_of_same (pa := []) (pv := []) hW' (fun _ _ _ => (trodAll_cons_mk (shut_bool Try.underlying4 _) trodAll_mk0)) (fun sp _ => (trodAll_cons_mk (hr _ _ _ _) trodAll_mk0)) (fun _ _ => rfl) rfl
    (hg.frame _) hg.2.1 (ok_one (by kernel_rfl) rfl (okWide_bool_mk Try.underlying4 _))⟩

theorem over : Rows.montReckonsRow.holds Try.pinned (OpenSpec.ofChange Rows.montReckonsSpec) :=
  OpenClaim.holds_of_wide 4 Try.f4 rfl rfl rfl rfl rfl rfl rfl ⟨rfl, rfl, rfl, rfl, rfl⟩ rfl rfl rfl rfl rfl (by kernel_rfl) Try.func4 (by kernel_rfl)
    (of_decide_eq_true (by kernel_rfl)) (by unfold Func.isWrapper; first | (rw [if_pos (by decide +kernel)]; kernel_rfl) | (rw [if_neg (by decide +kernel)]; exact ⟨rfl, rfl⟩))
    (fun os started H enc _ => lifted os started H enc)

theorem proved : Rows.MontReckonsSaid :=
  over
#print axioms proved
end Go.Proofs.Ytpdbdnhjibkflaa.montReckons
