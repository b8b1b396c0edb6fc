/-
  CrcRecords returns true for every input: no condition but that the package variable of reflectlite's handle on error holds what its own text lays, which the card ties to the program's text. (The frame: RowS, CsS; the walk: crcRecords_walk of YtpdglbfnmilblaaDoorCsTg.)
-/
import Derived.Test.YtpdglbfnmilblaaDoorRows
import Derived.Test.YtpdglbfnmilblaaDoorTie
import Derived.Test.YtpdglbfnmilblaaDoorCards
import Derived.Test.YtpdglbfnmilblaaDoorPk2
import Derived.Test.YtpdglbfnmilblaaDoorPk13
import Derived.Test.YtpdglbfnmilblaaDoorPk40
import Derived.Test.YtpdglbfnmilblaaDoorPk48
import Derived.SevenTiedAt
import Derived.WalkKit
import Derived.ProofKit
import Derived.OpenShut
namespace Go.Proofs.YtpdglbfnmilblaaDoor.crcRecords
open Go.ChangeShapes Go.WideShapes Go.ChangeAt Go.RowKit
set_option linter.unusedVariables false

theorem own : ownKnob Tryd.prog.godebug = none := by kernel_rfl
theorem laid : laidOutB Tryd.prog = true := by kernel_rfl

set_option maxRecDepth 100000 in
theorem lifted (os : Os) (started : os.Started) (H : Type) (enc : TypeId × Value → H) :
    ReturnsInHanded {} Tryd.checked os 3 .any (fun w args => (Rows.crcRecordsSpec.pre enc Tryd.prog Tryd.f3 [] false w args ∧ laidMetH Tryd.prog laidE w) ∧ sizedMet enc Tryd.prog Tryd.f3 (OpenSpec.ofChange Rows.crcRecordsSpec) false w args)
      (Rows.crcRecordsSpec.post enc Tryd.prog Tryd.f3 false true false false) := by
  refine returnsInHanded_of_change_and (C := Tryd.checked) (X := fun w _ => laidMetH Tryd.prog laidE w) (fun _ _ _ hh h => h.of_heap hh) own started (by kernel_rfl) Tryd.func3
    (ChangeSpec.witness_at (enc := enc) (C := Tryd.checked) (os := os) (X := fun w _ => laidMetH Tryd.prog laidE w) false (laidWorld os) #[.agg #[.int .i64 0, .int .i64 0, .int .i64 0, .int .i64 0, .int .i64 0, .slice none 0 0, .slice none 0 0, .slice none 0 0, .bool false, .string { data := #[] }, .int .i64 0, .int .i64 0, .int .i64 0, .int .i64 0, .int .i64 0, .int .i64 0, .int .i64 0, .int .i64 0, .slice none 0 0, .slice none 0 0, .slice none 0 0, .bool false]] 8 rfl (by kernel_rfl) (by kernel_rfl) (by kernel_rfl) (by kernel_rfl) (by kernel_rfl) (laidWorld_met os _)) ?_
  intro W base args ds gs before hval0 hW _ hS hL _
  have hval : ∀ (j : Nat) t v, Tryd.f3.params[j]? = some t → args[j]? = some v → Value.okWide Tryd.prog W .any base t v := hval0
  have hW' := hW
  obtain ⟨p, q, hA0, hV, rfl, hfz, hnd⟩ := hW
  have hA : DataW.TrodAll enc Tryd.prog W 0 (fun _ => true) true Tryd.f3.params.toList args.toList ds p := hA0
  rw [Tryd.params3] at hA hval
  obtain ⟨v0, vs0, d0, ds0, p0, q0, hargs, rfl, rfl, h0, r0'⟩ := trodAll_cons hA
  obtain ⟨rfl, rfl, rfl⟩ := trodAll_nil r0'
  obtain rfl : args = #[v0] := by cases args; simp_all
  clear hA0 hval0
  obtain ⟨r0, vp0, vq0, vt0, l0, a0, b0, c0, u0, up0, uq0, ut0, rfl, hw0, hu0, al0, ll0, rp0, rq0, rt0, kp0, kq0, kt0⟩ := open_in hS (j := 0) (by rw [Tryd.params3]; rfl) rfl (hval 0 32 _ rfl rfl) h0
  have C : Calls Tryd.prog 3 #[inV r0 vp0 vq0 vt0 l0 a0 b0 c0 u0 up0 uq0 ut0] W fun e w' => e = .returned (.bool true) ∧ Bl W w' := crcRecords_walk r0 vp0 vq0 vt0 l0 a0 b0 c0 u0 up0 uq0 ut0 hw0 hu0 al0 ll0 W rp0 rq0 rt0 kp0 kq0 kt0 (err_of_laid hL)
  refine C.mono fun e W' ⟨he, hg⟩ => ?_
  subst he
  exact ⟨_, rfl, law_post laid hW' rfl rfl rfl Tryd.underlying4 (by rw [Tryd.params3]; intro t ht; simp at ht; (repeat' (first | subst ht | (rcases ht with rfl | ht))) <;> exact ⟨by kernel_rfl, of_decide_eq_true (by kernel_rfl)⟩) hg⟩

theorem over : Rows.CrcRecordsSaid :=
  OpenClaim.holds_of_wide 3 Tryd.f3 rfl rfl rfl rfl rfl rfl rfl ⟨rfl, rfl, rfl, rfl, rfl⟩ rfl rfl rfl rfl rfl (by kernel_rfl) Tryd.func3 (by kernel_rfl)
    (of_decide_eq_true (by kernel_rfl)) (by unfold Func.isWrapper; first | (rw [if_pos (by decide +kernel)]; kernel_rfl) | (rw [if_neg (by decide +kernel)]; exact ⟨rfl, rfl⟩))
    (fun os started H enc _ => lifted os started H enc)

theorem proved : Rows.CrcRecordsCardSaid :=
  Claim7.holds_tied_plain_at .later [] [.handle] true (true, "0045880fd807c5176ec60a3c878f29ec78b1bd889f4033743646fb712fe90747") true
    over (fun _ h => by cases h) (by kernel_rfl) (fun _ h => by cases h) crcRecords_row_tie rfl ⟨rfl, rfl⟩ (by kernel_rfl) rfl
    (fun f fn hf hfn => by
      obtain rfl : f = 3 := Option.some.inj ((show Tryd.prog.funcNamed "tallystick/tallysticklaw14.CrcRecords" = some 3 by kernel_rfl).symm.trans hf) |>.symm
      obtain rfl : fn = Tryd.f3 := (Option.some.inj (Tryd.func3.symm.trans hfn)).symm
      exact ⟨by kernel_rfl, fun j t ht => by
        rw [Tryd.params3] at ht
        have hm : t ∈ [32] := by simpa using Array.mem_of_getElem? ht
        have hall : ([32].all fun u => !Tryd.prog.wantsStandIn u) = true := by kernel_rfl
        exact (show Tryd.prog.wantsStandIn t = false by simpa using List.all_eq_true.1 hall t hm)⟩)
    (by kernel_rfl)
#print axioms proved
end Go.Proofs.YtpdglbfnmilblaaDoor.crcRecords
