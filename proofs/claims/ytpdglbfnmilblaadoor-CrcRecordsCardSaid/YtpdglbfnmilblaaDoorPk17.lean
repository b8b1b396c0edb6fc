/-
  The document's rows of digits (layer 4): Digits. · The document's rows of digits (layer 4): Words.
-/
import Derived.Test.YtpdglbfnmilblaaDoorPk7
import Derived.Test.YtpdglbfnmilblaaDoorPk8
import Derived.Test.YtpdglbfnmilblaaDoorPk14
import Derived.RegionTactic
import Derived.BigRegion
namespace Go.Proofs.YtpdglbfnmilblaaDoor
open Go.RowKit
set_option linter.unusedVariables false

def W64 : Nat := 18446744073709551616
theorem W64_eq : W64 = 65536 ^ 4 := by decide
/-- Behind i words. -/
structure Dgt (l : List Nat) (i : Nat) (out : List Nat) : Prop where
  len : out.length = 4 * i
  all : All 65536 out
  num : val 65536 out = val W64 (l.take i)
/-- Behind i words, and k digits of the next one, of which y is left. -/
structure Dgi (l : List Nat) (i k : Nat) (out : List Nat) (y : Nat) : Prop where
  len : out.length = 4 * i + k
  all : All 65536 out
  num : val 65536 out + 65536 ^ (4 * i + k) * y = val W64 (l.take (i + 1))
  lt : y < 65536 ^ (4 - k)
theorem dgt_start (l : List Nat) : Dgt l 0 [] := ⟨rfl, all_nil _, by simp [val]⟩
theorem dgi_start {l : List Nat} {i : Nat} {out : List Nat} (h : Dgt l i out) (hi : i < l.length) (hw : l[i] < W64) : Dgi l i 0 out l[i] := by
  refine ⟨h.len, h.all, ?_, by rw [W64_eq] at hw; exact hw⟩
  rw [val_take_succ W64 l i hi, h.num, Nat.add_zero, Nat.pow_mul, ← W64_eq]
theorem dgi_step {l : List Nat} {i k : Nat} {out : List Nat} {y : Nat} (h : Dgi l i k out y) (hk : k < 4) : Dgi l i (k + 1) (out ++ [y % 65536]) (y / 65536) := by
  refine ⟨by rw [List.length_append, h.len]; rfl, all_snoc h.all (Nat.mod_lt _ (by decide)), ?_, ?_⟩
  · rw [← h.num, val_append, val_one, h.len, ← Nat.add_assoc, Nat.pow_succ, Nat.mul_assoc, Nat.add_assoc, ← Nat.mul_add, Nat.mod_add_div]
  · have e : 65536 ^ (4 - k) = 65536 ^ (4 - (k + 1)) * 65536 := by rw [← Nat.pow_succ]; congr 1; omega
    rw [Nat.div_lt_iff_lt_mul (by decide), ← e]
    exact h.lt
theorem dgi_end {l : List Nat} {i : Nat} {out : List Nat} {y : Nat} (h : Dgi l i 4 out y) : Dgt l (i + 1) out := by
  have hy : y = 0 := by have := h.lt; simp at this; exact this
  have hn := h.num
  rw [hy, Nat.mul_zero, Nat.add_zero] at hn
  exact ⟨by rw [h.len]; omega, h.all, hn⟩

end Go.Proofs.YtpdglbfnmilblaaDoor
namespace Go.Proofs.YtpdglbfnmilblaaDoor
open Go.RowKit
set_option linter.unusedVariables false

theorem Tryd.infoU64 : (Tryd.prog.info? 59).map (fun i => (i.zero, i.size, i.bytes)) = some (some (.int .u64 0), 1, 8) := by kernel_rfl

/-- One digit put into its word, as the walk reckons it. -/
theorem word_num (x i nw : Nat) (hi : i < (dig 65536 x).length) (hnw : ((dig 65536 x).length + 3) / 4 = nw) : ∃ q o d p r : Nat, i / 4 = q ∧ q < nw ∧ wq x (i + 1) q = o ∧ (dig 65536 x)[i] = d ∧ d < 65536 ∧ wq x i q = r ∧ (65536 * (o : Int)) = (p : Int) ∧
    IntKind.u64.wrap (p : Int) = (p : Int) ∧ IntKind.u64.wrap (d : Int) = (d : Int) ∧ IntKind.u64.wrap ((p : Int) + (d : Int)) = (r : Int) := by
  have hd : (dig 65536 x)[i] < 65536 := all_dig 65536 (by decide) x i hi
  have hs := wq_step x i (i / 4) rfl
  rw [← dig_get 65536 (by decide) x i hi] at hs
  have hlt := wq_lt x i (i / 4)
  refine ⟨i / 4, wq x (i + 1) (i / 4), (dig 65536 x)[i], 65536 * wq x (i + 1) (i / 4), wq x i (i / 4), rfl, by omega, rfl, rfl, hd, rfl, by omega, ?_, ?_, ?_⟩
  · rw [IntKind.wrap_u64]; omega
  · rw [IntKind.wrap_u64]; omega
  · rw [IntKind.wrap_u64]; omega

/-- A row of the call's own comes back. -/
def OwEnd (k : IntKind) (t : TypeId) (W : World) (l : List Nat) (e : Ending) (w : World) : Prop := ∃ v, e = .returned v ∧ Ow k t W.heap.size w v l ∧ Bl W w
theorem OwEnd.of {k : IntKind} {t : TypeId} {W w : World} {l m : List Nat} {v : Value} (h : Ow k t W.heap.size w v m) (g : Bl W w) (e' : m = l) : OwEnd k t W l (.returned v) w := ⟨v, rfl, e' ▸ h, g⟩
theorem Bk.ow {k : IntKind} {e : TypeId} {w : World} {g base n : Nat} {l : List Nat} (h : Bk k e w g l) (hb : base ≤ g) (hn : n = l.length) (hm : n ≤ maxLen) : Ow k e base w (.slice (some ⟨g, 0, none⟩) n n) l := by
  subst hn
  refine ⟨by rw [vs_length, Nat.mul_one], .inr ⟨g, l.length, _, rfl, hb, h, Nat.le_refl _, hm, by simp [vs], ?_⟩⟩
  rw [Nat.mul_one]
  apply List.take_of_length_le
  simp [vs]
end Go.Proofs.YtpdglbfnmilblaaDoor
