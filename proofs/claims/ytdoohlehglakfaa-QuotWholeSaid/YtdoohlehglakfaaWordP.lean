/-
  What package word answers, as plain functions of natural numbers; the numbers' spellings in a walk; the world of what only reads. No program in sight.
-/
import Derived.WalkKit
import Derived.Laws.Bits64b
import Derived.IntWalk
import Derived.Lib.Hide
import Derived.RowKit3
import Derived.Deep.QuietTactic
namespace Go.Proofs.Ytdoohlehglakfaa
open Go.RowKit
set_option linter.unusedVariables false

/-- What counts as a carry: 0, or 1 for any other number. -/
def un (c : Nat) : Nat := if c = 0 then 0 else 1
theorem un_le (c : Nat) : un c ≤ 1 := by unfold un; split <;> omega

theorem ret_eq {a b : Value} (h : a = b) : Ending.returned a = .returned b := by rw [h]
theorem u64_eq {a b : Int} (h : a = b) : Value.int .u64 a = .int .u64 b := by rw [h]
theorem pair_eq {a b c d : Int} (h : a = c) (h' : b = d) : Value.tuple #[.int .u64 a, .int .u64 b] = .tuple #[.int .u64 c, .int .u64 d] := by rw [h, h']

theorem int_eq {k : IntKind} {a b : Int} (h : a = b) : Ending.returned (.int k a) = .returned (.int k b) := by rw [h]

def addS (a b c : Nat) : Nat := (a + b + un c) % 18446744073709551616
def addC (a b c : Nat) : Nat := (a + b + un c) / 18446744073709551616
def subD (a b c : Nat) : Nat := (a + 18446744073709551616 - b - un c) % 18446744073709551616
def subB (a b c : Nat) : Nat := if a < b + un c then 1 else 0
def mulH (a b : Nat) : Nat := a * b / 18446744073709551616
def mulL (a b : Nat) : Nat := a * b % 18446744073709551616
def num (hi lo : Nat) : Nat := hi * 18446744073709551616 + lo
def divQ (hi lo d : Nat) : Nat := if d ≤ hi then 0 else num hi lo / d
def divR (hi lo d : Nat) : Nat := if d ≤ hi then 0 else num hi lo % d
def divE (hi d : Nat) : Nat := if d = 0 then 2 else if d ≤ hi then 1 else 0

theorem maskN (a : Nat) (ha : a < 18446744073709551616) : bits .and .u64 (a : Int) 4294967295 = ((a % 4294967296 : Nat) : Int) := by
  have h := bits_and_u64_nat a 4294967295 ha (by omega)
  have e : a &&& 4294967295 = a % 4294967296 := Nat.and_two_pow_sub_one_eq_mod a 32
  rw [e] at h
  exact h
theorem divN (a : Nat) : (a : Int) / 4294967296 = ((a / 4294967296 : Nat) : Int) := by omega
theorem modN (a : Nat) : (a : Int) % 4294967296 = ((a % 4294967296 : Nat) : Int) := by omega
theorem tdivN (a : Nat) : ((a : Int)).tdiv 4294967296 = ((a / 4294967296 : Nat) : Int) := by rw [Int.tdiv_eq_ediv_of_nonneg (by omega)]; omega
theorem tmodN (a : Nat) : ((a : Int)).tmod 4294967296 = ((a % 4294967296 : Nat) : Int) := by rw [Int.tmod_eq_emod_of_nonneg (by omega)]; omega
theorem mulN (a b : Nat) : (a : Int) * (b : Int) = ((a * b : Nat) : Int) := (Int.natCast_mul a b).symm
theorem addN (a b : Nat) : (a : Int) + (b : Int) = ((a + b : Nat) : Int) := (Int.natCast_add a b).symm
theorem wrapN (a : Nat) (ha : a < 18446744073709551616) : IntKind.u64.wrap (a : Int) = (a : Int) := by rw [IntKind.wrap_u64]; omega
theorem wrapM (a : Nat) : IntKind.u64.wrap (a : Int) = ((a % 18446744073709551616 : Nat) : Int) := by rw [IntKind.wrap_u64]; omega
theorem w64 (a : Nat) (ha : a < 18446744073709551616) : IntKind.u64.wrap (a : Int) = (a : Int) := by rw [IntKind.wrap_u64]; omega

theorem un_cases (c : Nat) : (c = 0 ∧ un c = 0) ∨ (1 ≤ c ∧ un c = 1) := by
  unfold un
  by_cases h : c = 0
  · exact Or.inl ⟨h, if_pos h⟩
  · exact Or.inr ⟨by omega, if_neg h⟩

theorem addC_le (a b c : Nat) (ha : a < 18446744073709551616) (hb : b < 18446744073709551616) : addC a b c ≤ 1 := by
  have := un_le c
  unfold addC; omega
theorem addS_lt (a b c : Nat) : addS a b c < 18446744073709551616 := Nat.mod_lt _ (by omega)
theorem back_d (a b c : Nat) (ha : a < 18446744073709551616) (hb : b < 18446744073709551616) : subD (addS a b c) b c = a := by
  have := un_le c
  unfold subD addS; omega
theorem back_b (a b c : Nat) (ha : a < 18446744073709551616) (hb : b < 18446744073709551616) : subB (addS a b c) b c = addC a b c := by
  have := un_le c
  unfold subB addS addC
  split <;> omega

theorem mulH_lt (a b : Nat) (ha : a < 18446744073709551616) (hb : b < 18446744073709551616) : mulH a b < 18446744073709551616 := by
  unfold mulH
  rw [Nat.div_lt_iff_lt_mul (by omega)]
  exact Nat.mul_lt_mul'' ha hb
theorem mulL_lt (a b : Nat) : mulL a b < 18446744073709551616 := Nat.mod_lt _ (by omega)
theorem mul_parts (a b : Nat) : mulH a b * 18446744073709551616 + mulL a b = a * b := Nat.div_add_mod' _ _
theorem mulH_comm (a b : Nat) : mulH a b = mulH b a := by unfold mulH; rw [Nat.mul_comm]
theorem mulL_comm (a b : Nat) : mulL a b = mulL b a := by unfold mulL; rw [Nat.mul_comm]

theorem add_parts (a b c : Nat) : addC a b c * 18446744073709551616 + addS a b c = a + b + un c := Nat.div_add_mod' _ _
theorem un_of_le (y : Nat) (h : y ≤ 1) : un y = y := by unfold un; split <;> omega

/-! ### The world: what only reads, in an order that is left open -/
def Q (w w' : World) : Prop := ∃ n, w' = w.drewN n
theorem Q.refl (w : World) : Q w w := ⟨0, rfl⟩
theorem Q.drewN {w w' : World} (h : Q w w') (n : Nat) : Q w (w'.drewN n) := by
  obtain ⟨m, rfl⟩ := h
  exact ⟨m + n, World.drewN_drewN _ _ _⟩
theorem Q.drew {w w' : World} (h : Q w w') : Q w w'.drew := h.drewN 1
theorem Q.trans {a b c : World} (h : Q a b) (h' : Q b c) : Q a c := by
  obtain ⟨n, rfl⟩ := h'
  exact h.drewN n
theorem Q.grown {w w' : World} (h : Q w w') : Grown w w' := by
  obtain ⟨n, rfl⟩ := h
  exact Grown.refl w
end Go.Proofs.Ytdoohlehglakfaa
