/-
  The calls of package word that stand on math/bits.Add64: what they answer. · The calls of package word that stand on math/bits.Sub64: what they answer. · word.Mul, and math/bits.Mul64 under it: what they answer. · The document's rows of digits (layer 4): Add, Sub. · The document's rows of digits (layer 4): Sub.
-/
import Derived.Test.YtdaglbjdgdokpaaDoorChecked
import Derived.Test.YtdaglbjdgdokpaaDoorPk6
import Derived.Laws.Externs
import Derived.Lib.Mul64
import Derived.Deep.QuietTactic
import Derived.BigQuiet
namespace Go.Proofs.YtdaglbjdgdokpaaDoor
open Go.RowKit
set_option linter.unusedVariables false

end Go.Proofs.YtdaglbjdgdokpaaDoor
namespace Go.Proofs.YtdaglbjdgdokpaaDoor
open Go.RowKit
set_option linter.unusedVariables false

/-- The model's own entry for math/bits.Sub64: the second of its two rows. -/
def subEntry : Array Value → Sem Value := (Extern.MathBitsCarry.rows[1]'(by decide)).2

theorem subEntry_run (x y b : Nat) (hb : b ≤ 1) (w : World) :
    (subEntry #[.int .u64 (x : Int), .int .u64 (y : Int), .int .u64 (b : Int)]).run Tryd.prog w =
      .ok (.tuple #[.int .u64 (((x + 18446744073709551616 - y - b) % 18446744073709551616 : Nat) : Int), .int .u64 ((if x < y + b then 1 else 0 : Nat) : Int)]) w := by
  have : b = 0 ∨ b = 1 := by omega
  rcases this with rfl | rfl <;> rfl

end Go.Proofs.YtdaglbjdgdokpaaDoor
namespace Go.Proofs.YtdaglbjdgdokpaaDoor
open Go.RowKit
set_option linter.unusedVariables false

end Go.Proofs.YtdaglbjdgdokpaaDoor
namespace Go.Proofs.YtdaglbjdgdokpaaDoor
open Go.RowKit
set_option linter.unusedVariables false

theorem dig_getD (B : Nat) (hB : 2 ≤ B) (X i : Nat) : (dig B X).getD i 0 = X / B ^ i % B := by
  by_cases h : i < (dig B X).length
  · have e : (dig B X).getD i 0 = (dig B X)[i] := by simp [h]
    rw [e, dig_get B hB]
  · have e : (dig B X).getD i 0 = 0 := by simp [h]
    have hlt := dig_lt B hB X
    rw [e, Nat.div_eq_of_lt (Nat.lt_of_lt_of_le hlt (Nat.pow_le_pow_right (by omega) (by omega))), Nat.zero_mod]
theorem mod_succ (B X i : Nat) : X % B ^ (i + 1) = X % B ^ i + B ^ i * (X / B ^ i % B) := by rw [Nat.pow_succ, Nat.mod_mul]
theorem mod_all (B : Nat) (hB : 2 ≤ B) (X i : Nat) (h : (dig B X).length ≤ i) : X % B ^ i = X :=
  Nat.mod_eq_of_lt (Nat.lt_of_lt_of_le (dig_lt B hB X) (Nat.pow_le_pow_right (by omega) h))
theorem div_all (B : Nat) (hB : 2 ≤ B) (X i : Nat) (h : (dig B X).length ≤ i) : X / B ^ i % B = 0 := by
  rw [Nat.div_eq_of_lt (Nat.lt_of_lt_of_le (dig_lt B hB X) (Nat.pow_le_pow_right (by omega) h)), Nat.zero_mod]

/-- Behind i digits of a sum. -/
structure Ad (X Y n m i c : Nat) (out : List Nat) : Prop where
  len : out.length = i
  all : All 65536 out
  num : val 65536 out + 65536 ^ i * c = X % 65536 ^ i + Y % 65536 ^ i
  lt : c ≤ 1
  far : i ≤ max n m ∨ (i = max n m + 1 ∧ c = 0)
theorem ad_start (X Y n m : Nat) : Ad X Y n m 0 0 [] := ⟨rfl, all_nil _, by simp [val, Nat.mod_one], by omega, Or.inl (Nat.zero_le _)⟩
theorem ad_step {X Y n m i c : Nat} {out : List Nat} (hX : (dig 65536 X).length = n) (hY : (dig 65536 Y).length = m) (h : Ad X Y n m i c out) (hg : i < n ∨ i < m ∨ 0 < c) :
    Ad X Y n m (i + 1) ((X / 65536 ^ i % 65536 + Y / 65536 ^ i % 65536 + c) / 65536) (out ++ [(X / 65536 ^ i % 65536 + Y / 65536 ^ i % 65536 + c) % 65536]) := by
  have h1 : X / 65536 ^ i % 65536 < 65536 := Nat.mod_lt _ (by decide)
  have h2 : Y / 65536 ^ i % 65536 < 65536 := Nat.mod_lt _ (by decide)
  have hc := h.lt
  refine ⟨by rw [List.length_append, h.len]; rfl, all_snoc h.all (Nat.mod_lt _ (by decide)), ?_, by omega, ?_⟩
  · rw [val_append, val_one, h.len, mod_succ, mod_succ, Nat.pow_succ, Nat.mul_assoc, Nat.add_assoc, ← Nat.mul_add, Nat.mod_add_div, Nat.mul_add, Nat.mul_add]
    have := h.num
    omega
  · by_cases ha : i < n
    · exact Or.inl (by have := Nat.le_max_left n m; omega)
    · by_cases hb : i < m
      · exact Or.inl (by have := Nat.le_max_right n m; omega)
      · refine Or.inr ?_
        have e1 := div_all 65536 (by decide) X i (by omega)
        have e2 := div_all 65536 (by decide) Y i (by omega)
        rw [e1, e2]
        rcases h.far with hf | ⟨hf, hc0⟩
        · constructor
          · rcases Nat.le_total n m with h' | h'
            · rw [Nat.max_eq_right h'] at hf ⊢; omega
            · rw [Nat.max_eq_left h'] at hf ⊢; omega
          · omega
        · omega
theorem ad_end {X Y n m i : Nat} {out : List Nat} (hX : (dig 65536 X).length = n) (hY : (dig 65536 Y).length = m) (h : Ad X Y n m i 0 out) (h1 : n ≤ i) (h2 : m ≤ i) : val 65536 out = X + Y := by
  have := h.num
  rw [Nat.mul_zero, mod_all 65536 (by decide) X i (by omega), mod_all 65536 (by decide) Y i (by omega)] at this
  exact this
theorem ad_num (X Y i c : Nat) (hc : c ≤ 1) : ∃ d1 d2 s r q : Nat, X / 65536 ^ i % 65536 = d1 ∧ Y / 65536 ^ i % 65536 = d2 ∧ (d1 : Int) < 65536 ∧ (d2 : Int) < 65536 ∧ (d1 : Int) + (d2 : Int) + (c : Int) = (s : Int) ∧ s = d1 + d2 + c ∧ (s : Int) ≤ 131071 ∧ (s : Int) % 65536 = (r : Int) ∧ (s : Int) / 65536 = (q : Int) ∧ s % 65536 = r ∧ s / 65536 = q := by
  have h1 : X / 65536 ^ i % 65536 < 65536 := Nat.mod_lt _ (by decide)
  have h2 : Y / 65536 ^ i % 65536 < 65536 := Nat.mod_lt _ (by decide)
  exact ⟨_, _, _, _, _, rfl, rfl, by omega, by omega, (by simp only [Int.natCast_add]), rfl, by omega, by omega, by omega, rfl, rfl⟩

end Go.Proofs.YtdaglbjdgdokpaaDoor
namespace Go.Proofs.YtdaglbjdgdokpaaDoor
open Go.RowKit
set_option linter.unusedVariables false

/-- Behind i digits of a difference. -/
structure Sb (X Y i c : Nat) (out : List Nat) : Prop where
  len : out.length = i
  all : All 65536 out
  num : val 65536 out + Y % 65536 ^ i = X % 65536 ^ i + 65536 ^ i * c
  lt : c ≤ 1
theorem sb_start (X Y : Nat) : Sb X Y 0 0 [] := ⟨rfl, all_nil _, by simp [val, Nat.mod_one], by omega⟩
theorem sb_step {X Y i c : Nat} {out : List Nat} (h : Sb X Y i c out) (r c' : Nat) (hr : r < 65536) (hc' : c' ≤ 1) (e : r + Y / 65536 ^ i % 65536 + c = X / 65536 ^ i % 65536 + 65536 * c') : Sb X Y (i + 1) c' (out ++ [r]) := by
  refine ⟨by rw [List.length_append, h.len]; rfl, all_snoc h.all hr, ?_, hc'⟩
  rw [val_append, val_one, h.len, mod_succ, mod_succ, Nat.pow_succ, Nat.mul_assoc]
  have h1 := h.num
  have h2 : 65536 ^ i * (r + Y / 65536 ^ i % 65536 + c) = 65536 ^ i * (X / 65536 ^ i % 65536 + 65536 * c') := by rw [e]
  simp only [Nat.mul_add] at h2
  omega
theorem sb_end {X Y n c : Nat} {out : List Nat} (hX : (dig 65536 X).length = n) (hle : Y ≤ X) (h : Sb X Y n c out) : val 65536 out = X - Y := by
  have hXl := dig_lt 65536 (by decide) X
  rw [hX] at hXl
  have e := h.num
  rw [Nat.mod_eq_of_lt hXl, Nat.mod_eq_of_lt (Nat.lt_of_le_of_lt hle hXl)] at e
  have hv := val_lt 65536 (by decide) out h.all
  rw [h.len] at hv
  have hc : c = 0 := by
    rcases Nat.eq_zero_or_pos c with h0 | h0
    · exact h0
    · have : c = 1 := by have := h.lt; omega
      rw [this, Nat.mul_one] at e
      omega
  rw [hc, Nat.mul_zero] at e
  omega
theorem sb_num (d1 d2 c : Nat) (h1 : d1 < 65536) (h2 : d2 < 65536) (hc : c ≤ 1) : ∃ t z : Int, IntKind.i64.wrap ((d1 : Int) - (d2 : Int)) = t ∧ IntKind.i64.wrap (t - (c : Int)) = z ∧ z = (d1 : Int) - (d2 : Int) - (c : Int) ∧ -65537 ≤ z ∧ z ≤ 65535 :=
  ⟨(d1 : Int) - (d2 : Int), (d1 : Int) - (d2 : Int) - (c : Int), IntWalk.i64_in _ (by omega), IntWalk.i64_in _ (by omega), rfl, by omega, by omega⟩

theorem quiet_sym {P : Program} {f : FuncId} {args : Array Value} {w : World} {v : Value} (h : Calls P f args w fun e w' => e = .returned v ∧ w = w') : Calls P f args w fun e w' => e = .returned v ∧ w' = w :=
  h.mono fun _ _ ⟨he, hw⟩ => ⟨he, hw.symm⟩
theorem quiet_left {P : Program} {f : FuncId} {args : Array Value} {w : World} {n : Nat} {v : Value} (h : Calls P f args (w.drewN n) fun e w' => e = .returned v ∧ w.drewN n = w') : Calls P f args (w.drewN n) fun e w'' => e = .returned v ∧ ∃ m, w'' = w.drewN m :=
  h.mono fun _ _ ⟨he, hm⟩ => ⟨he, n, hm.symm⟩

end Go.Proofs.YtdaglbjdgdokpaaDoor
