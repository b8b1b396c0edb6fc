/-
  How many bits a word has at most. No walk. · The document's answer for word.Len. · The document's rows of digits (layer 4): digit, Same, Bits.
-/
import Derived.Test.YtdoohlehglakfaaWordP
import Derived.Lib.ItoaNum
import Derived.LoopTactic
import Derived.Test.YtdoohlehglakfaaChecked
import Derived.Test.YtdoohlehglakfaaNtD
namespace Go.Proofs.Ytdoohlehglakfaa
open Go.RowKit
set_option linter.unusedVariables false

theorem bl_le (x : Nat) (hx : x < 18446744073709551616) : Lib.bitLen x ≤ 64 := Lib.bitLen_le x 64 (by omega) hx

theorem bl_zero : Lib.bitLen 0 = 0 := Lib.bitLenAux_zero 64
end Go.Proofs.Ytdoohlehglakfaa
namespace Go.Proofs.Ytdoohlehglakfaa
open Go.RowKit
set_option linter.unusedVariables false

end Go.Proofs.Ytdoohlehglakfaa
namespace Go.Proofs.Ytdoohlehglakfaa
open Go.RowKit
set_option linter.unusedVariables false

set_option maxRecDepth 100000 in
theorem rdigit_any (v : Value) (l : List Nat) (i : Nat) (hi : i < 2199023255552) (w : World) (hr : Rw .i64 w v l) :
    Calls Try.prog 17 #[v, .int .i64 (i : Int)] w fun e w' => e = .returned (.int .i64 ((l.getD i 0 : Nat) : Int)) ∧ w = w' := by
  obtain ⟨A, c, rfl, _, _, _, hx⟩ := hr
  by_cases h : i < l.length
  · obtain ⟨ad, hA, hc⟩ := hx.at_ h
    have e : l.getD i 0 = l[i] := by simp [h]
    rw [e]
    obtain ⟨d, hd⟩ : ∃ d, l[i] = d := ⟨_, rfl⟩
    rw [hd] at hc ⊢
    have b : (0 : Int) ≤ (i : Int) ∧ (i : Int) < (l.length : Int) := by omega
    subst hA
    clear hd e hx hi
    go_enter Try.func17, Try.ntmps17
    go_wp2
    go_ret
    exact ⟨rfl, rfl⟩
  · have e : l.getD i 0 = 0 := by simp [h]
    rw [e]
    have b : decide (i < l.length) = false := decide_eq_false h
    clear e hx hi
    go_enter Try.func17, Try.ntmps17
    go_wp2
    go_ret
    exact ⟨rfl, rfl⟩

theorem ret_b {a b : Bool} (h : a = b) : Ending.returned (.bool a) = .returned (.bool b) := by rw [h]

theorem take_eq_step {l m : List Nat} {i : Nat} (h : l.take i = m.take i) (hl : i < l.length) (hm : i < m.length) (e : l[i] = m[i]) : l.take (i + 1) = m.take (i + 1) := by
  rw [List.take_succ_eq_append_getElem hl, List.take_succ_eq_append_getElem hm, h, e]
theorem take_ne {l m : List Nat} {i : Nat} (hl : i < l.length) (hm : i < m.length) (e : l[i] ≠ m[i]) : l ≠ m := by
  intro h; subst h; exact e rfl

/-! ### How many bits -/
theorem bits_len (x : Nat) (hx : 0 < x) : 16 * ((dig 65536 x).length - 1) + Lib.bitLen (x / 65536 ^ ((dig 65536 x).length - 1)) = Nat.log2 x + 1 ∧ x / 65536 ^ ((dig 65536 x).length - 1) < 65536 := by
  obtain ⟨m, hm⟩ : ∃ m, (dig 65536 x).length - 1 = m := ⟨_, rfl⟩
  have hge := dig_ge 65536 (by decide) x hx
  have hlt := dig_lt 65536 (by decide) x
  have hl := dig_len_pos 65536 (by decide) x hx
  rw [show (dig 65536 x).length = m + 1 from by omega] at hlt
  rw [hm] at hge ⊢
  have hp : 0 < 65536 ^ m := Nat.pow_pos (by decide)
  have hy1 : x / 65536 ^ m < 65536 := by rw [Nat.div_lt_iff_lt_mul hp, Nat.mul_comm, ← Nat.pow_succ]; exact hlt
  have hy0 : 0 < x / 65536 ^ m := Nat.div_pos hge hp
  refine ⟨?_, hy1⟩
  obtain ⟨b1, b2, b3⟩ := Lib.bitLenAux_bounds 64 (x / 65536 ^ m) (by omega) (by omega)
  obtain ⟨b, hb⟩ : ∃ b, Lib.bitLen (x / 65536 ^ m) = b := ⟨_, rfl⟩
  have hb' : Lib.bitLenAux 64 (x / 65536 ^ m) = b := hb
  rw [hb'] at b1 b2 b3
  rw [hb]
  rw [two_pow16] at b2 b3
  have h1 : 2 ^ (16 * m + (b - 1)) ≤ x := by
    rw [Nat.pow_add, Nat.mul_comm]
    exact (Nat.le_div_iff_mul_le (Nat.two_pow_pos _)).1 b2
  have h2 : x < 2 ^ (16 * m + (b - 1) + 1) := by
    rw [show 16 * m + (b - 1) + 1 = b + 16 * m from by omega, Nat.pow_add]
    exact (Nat.div_lt_iff_lt_mul (Nat.two_pow_pos _)).1 b3
  have h3 : Nat.log2 x = 16 * m + (b - 1) := by
    have e1 : 16 * m + (b - 1) ≤ Nat.log2 x := (Nat.le_log2 (by omega)).2 h1
    have e2 : Nat.log2 x < 16 * m + (b - 1) + 1 := (Nat.log2_lt (by omega)).2 h2
    omega
  rw [h3]
  omega
/-- How many bits a number has. -/
def blen (x : Nat) : Nat := if x = 0 then 0 else Nat.log2 x + 1

end Go.Proofs.Ytdoohlehglakfaa
