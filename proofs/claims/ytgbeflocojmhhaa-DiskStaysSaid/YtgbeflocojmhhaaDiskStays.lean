/-
  DiskStays returns true for every input: no condition. (The frame: RowS, DkW, DkWs; the walk: diskStays_walk of YtgbeflocojmhhaaDkLf.)
-/
import Derived.Test.YtgbeflocojmhhaaRows
import Derived.Test.YtgbeflocojmhhaaRowS
import Derived.Test.YtgbeflocojmhhaaDkWs
import Derived.Test.YtgbeflocojmhhaaDkLf
import Derived.WalkKit
import Derived.ProofKit
import Derived.OpenShut
namespace Go.Proofs.Ytgbeflocojmhhaa.diskStays
open Go.ChangeShapes Go.WideShapes Go.ChangeAt Go.RowKit
set_option linter.unusedVariables false

theorem own : ownKnob Try.prog.godebug = none := by kernel_rfl
theorem laid : laidOutB Try.prog = true := by kernel_rfl

set_option maxRecDepth 100000 in
theorem lifted (os : Os) (started : os.Started) (H : Type) (enc : TypeId × Value → H) :
    ReturnsInHanded {} Try.checked os 5 .any (Rows.diskStaysSpec.pre6 enc Try.prog Try.f5 Rows.diskStaysRow.domain false) (Rows.diskStaysSpec.post enc Try.prog Try.f5 false true false false) := by
  refine returnsInHanded_of_change_sized (C := Try.checked) own started (by kernel_rfl) Try.func5
    (ChangeSpec.witness6 (enc := enc) (C := Try.checked) false ⟨#[], #[.agg #[.int .i64 0, .slice none 0 0, .string { data := #[] }, .string { data := #[] }, .string { data := #[] }, .slice none 0 0, .string { data := #[] }]], []⟩ 8 (by kernel_rfl) (by kernel_rfl) (by kernel_rfl) (by kernel_rfl)) ?_
  intro W base args ds gs before hval0 hW _ hS _
  have hval : ∀ (j : Nat) t v, Try.f5.params[j]? = some t → args[j]? = some v → Value.okWide Try.prog W .any base t v := hval0
  have hW' := hW
  obtain ⟨p, q, hA0, hV, rfl, hfz, hnd⟩ := hW
  have hA : DataW.TrodAll enc Try.prog W 0 (fun _ => true) true Try.f5.params.toList args.toList ds p := hA0
  rw [Try.params5] at hA hval
  obtain ⟨v0, vs0, d0, ds0, p0, q0, hargs, rfl, rfl, h0, r0'⟩ := trodAll_cons hA
  obtain ⟨rfl, rfl, rfl⟩ := trodAll_nil r0'
  obtain rfl : args = #[v0] := by cases args; simp_all
  clear hA0 hval0
  obtain ⟨room, u, l, s, to, data, vm, ms, other, rfl, hb, hf, hz, hs, hto, hda, hr, ha, hot⟩ := open_stays hS (j := 0) (by rw [Try.params5]; rfl) rfl (hval 0 42 _ rfl rfl) h0
  have C : Calls Try.prog 5 #[.agg #[.int .i64 room, u, .string s, .string to, .string data, vm, .string other]] W fun e w' => e = .returned (.bool true) ∧ Bl W w' := diskStays_walk room u l s to data vm ms other hb hz hs hto hda ha hot W hf hr
  refine C.mono fun e W' ⟨he, hg⟩ => ?_
  subst he
  exact ⟨_, rfl, law_post laid hW' rfl rfl rfl Try.underlying4 (by rw [Try.params5]; intro t ht; simp at ht; (repeat' (first | subst ht | (rcases ht with rfl | ht))) <;> exact ⟨by kernel_rfl, of_decide_eq_true (by kernel_rfl)⟩) hg⟩

theorem over : Rows.diskStaysRow.holds Try.pinned (OpenSpec.ofChange Rows.diskStaysSpec) :=
  OpenClaim.holds_of_wide 5 Try.f5 rfl rfl rfl rfl rfl rfl rfl ⟨rfl, rfl, rfl, rfl, rfl⟩ rfl rfl rfl rfl rfl (by kernel_rfl) Try.func5 (by kernel_rfl)
    (of_decide_eq_true (by kernel_rfl)) (by unfold Func.isWrapper; first | (rw [if_pos (by decide +kernel)]; kernel_rfl) | (rw [if_neg (by decide +kernel)]; exact ⟨rfl, rfl⟩))
    (fun os started H enc _ => lifted os started H enc)

theorem proved : Rows.DiskStaysSaid :=
  over
#print axioms proved
end Go.Proofs.Ytgbeflocojmhhaa.diskStays
