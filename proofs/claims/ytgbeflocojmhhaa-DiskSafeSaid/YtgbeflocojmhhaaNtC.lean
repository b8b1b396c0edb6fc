/-
  The document's rows of digits (layer 4): Words.
-/
import Derived.Test.YtgbeflocojmhhaaNtB
import Derived.Test.YtgbeflocojmhhaaNtK
import Derived.RegionTactic
import Derived.BigRegion
namespace Go.Proofs.Ytgbeflocojmhhaa
open Go.RowKit
set_option linter.unusedVariables false

theorem Try.infoU64 : (Try.prog.info? 54).map (fun i => (i.zero, i.size, i.bytes)) = some (some (.int .u64 0), 1, 8) := by kernel_rfl

/-- One digit put into its word, as the walk reckons it. -/
theorem word_num (x i nw : Nat) (hi : i < (dig 65536 x).length) (hnw : ((dig 65536 x).length + 3) / 4 = nw) : ∃ q o d p r : Nat, i / 4 = q ∧ q < nw ∧ wq x (i + 1) q = o ∧ (dig 65536 x)[i] = d ∧ d < 65536 ∧ wq x i q = r ∧ (65536 * (o : Int)) = (p : Int) ∧
    IntKind.u64.wrap (p : Int) = (p : Int) ∧ IntKind.u64.wrap (d : Int) = (d : Int) ∧ IntKind.u64.wrap ((p : Int) + (d : Int)) = (r : Int) := by
  have hd : (dig 65536 x)[i] < 65536 := all_dig 65536 (by decide) x i hi
  have hs := wq_step x i (i / 4) rfl
  rw [← dig_get 65536 (by decide) x i hi] at hs
  have hlt := wq_lt x i (i / 4)
  refine ⟨i / 4, wq x (i + 1) (i / 4), (dig 65536 x)[i], 65536 * wq x (i + 1) (i / 4), wq x i (i / 4), rfl, by omega, rfl, rfl, hd, rfl, by omega, ?_, ?_, ?_⟩
  · rw [IntKind.wrap_u64]; omega
  · rw [IntKind.wrap_u64]; omega
  · rw [IntKind.wrap_u64]; omega

/-- A row of the call's own comes back. -/
def OwEnd (k : IntKind) (t : TypeId) (W : World) (l : List Nat) (e : Ending) (w : World) : Prop := ∃ v, e = .returned v ∧ Ow k t W.heap.size w v l ∧ Bl W w
theorem OwEnd.of {k : IntKind} {t : TypeId} {W w : World} {l m : List Nat} {v : Value} (h : Ow k t W.heap.size w v m) (g : Bl W w) (e' : m = l) : OwEnd k t W l (.returned v) w := ⟨v, rfl, e' ▸ h, g⟩
theorem Bk.ow {k : IntKind} {e : TypeId} {w : World} {g base n : Nat} {l : List Nat} (h : Bk k e w g l) (hb : base ≤ g) (hn : n = l.length) (hm : n ≤ maxLen) : Ow k e base w (.slice (some ⟨g, 0, none⟩) n n) l := by
  subst hn
  refine ⟨by rw [vs_length, Nat.mul_one], .inr ⟨g, l.length, _, rfl, hb, h, Nat.le_refl _, hm, by simp [vs], ?_⟩⟩
  rw [Nat.mul_one]
  apply List.take_of_length_le
  simp [vs]
end Go.Proofs.Ytgbeflocojmhhaa
