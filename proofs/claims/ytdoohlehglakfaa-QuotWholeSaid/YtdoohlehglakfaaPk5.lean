/-
  The document's rows of digits (layer 4): Sub.
-/
import Derived.Test.YtdoohlehglakfaaPk4
import Derived.Deep.QuietTactic
import Derived.BigQuiet
namespace Go.Proofs.Ytdoohlehglakfaa
open Go.RowKit
set_option linter.unusedVariables false

/-- Behind i digits of a difference. -/
structure Sb (X Y i c : Nat) (out : List Nat) : Prop where
  len : out.length = i
  all : All 65536 out
  num : val 65536 out + Y % 65536 ^ i = X % 65536 ^ i + 65536 ^ i * c
  lt : c ≤ 1
theorem sb_start (X Y : Nat) : Sb X Y 0 0 [] := ⟨rfl, all_nil _, by simp [val, Nat.mod_one], by omega⟩
theorem sb_step {X Y i c : Nat} {out : List Nat} (h : Sb X Y i c out) (r c' : Nat) (hr : r < 65536) (hc' : c' ≤ 1) (e : r + Y / 65536 ^ i % 65536 + c = X / 65536 ^ i % 65536 + 65536 * c') : Sb X Y (i + 1) c' (out ++ [r]) := by
  refine ⟨by rw [List.length_append, h.len]; rfl, all_snoc h.all hr, ?_, hc'⟩
  rw [val_append, val_one, h.len, mod_succ, mod_succ, Nat.pow_succ, Nat.mul_assoc]
  have h1 := h.num
  have h2 : 65536 ^ i * (r + Y / 65536 ^ i % 65536 + c) = 65536 ^ i * (X / 65536 ^ i % 65536 + 65536 * c') := by rw [e]
  simp only [Nat.mul_add] at h2
  omega
theorem sb_end {X Y n c : Nat} {out : List Nat} (hX : (dig 65536 X).length = n) (hle : Y ≤ X) (h : Sb X Y n c out) : val 65536 out = X - Y := by
  have hXl := dig_lt 65536 (by decide) X
  rw [hX] at hXl
  have e := h.num
  rw [Nat.mod_eq_of_lt hXl, Nat.mod_eq_of_lt (Nat.lt_of_le_of_lt hle hXl)] at e
  have hv := val_lt 65536 (by decide) out h.all
  rw [h.len] at hv
  have hc : c = 0 := by
    rcases Nat.eq_zero_or_pos c with h0 | h0
    · exact h0
    · have : c = 1 := by have := h.lt; omega
      rw [this, Nat.mul_one] at e
      omega
  rw [hc, Nat.mul_zero] at e
  omega
theorem sb_num (d1 d2 c : Nat) (h1 : d1 < 65536) (h2 : d2 < 65536) (hc : c ≤ 1) : ∃ t z : Int, IntKind.i64.wrap ((d1 : Int) - (d2 : Int)) = t ∧ IntKind.i64.wrap (t - (c : Int)) = z ∧ z = (d1 : Int) - (d2 : Int) - (c : Int) ∧ -65537 ≤ z ∧ z ≤ 65535 :=
  ⟨(d1 : Int) - (d2 : Int), (d1 : Int) - (d2 : Int) - (c : Int), IntWalk.i64_in _ (by omega), IntWalk.i64_in _ (by omega), rfl, by omega, by omega⟩

theorem quiet_sym {P : Program} {f : FuncId} {args : Array Value} {w : World} {v : Value} (h : Calls P f args w fun e w' => e = .returned v ∧ w = w') : Calls P f args w fun e w' => e = .returned v ∧ w' = w :=
  h.mono fun _ _ ⟨he, hw⟩ => ⟨he, hw.symm⟩
theorem quiet_left {P : Program} {f : FuncId} {args : Array Value} {w : World} {n : Nat} {v : Value} (h : Calls P f args (w.drewN n) fun e w' => e = .returned v ∧ w.drewN n = w') : Calls P f args (w.drewN n) fun e w'' => e = .returned v ∧ ∃ m, w'' = w.drewN m :=
  h.mono fun _ _ ⟨he, hm⟩ => ⟨he, n, hm.symm⟩

end Go.Proofs.Ytdoohlehglakfaa
