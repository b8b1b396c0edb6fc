/-
  Package nat: place, the carriers raise and times, cmp.Compare, the makers of words and chain.
-/
import Derived.Test.YtojpfijjnocboaaPk14
import Derived.Test.YtojpfijjnocboaaPk15
namespace Go.Proofs.Ytojpfijjnocboaa
open Go.RowKit
set_option linter.unusedVariables false

set_option maxRecDepth 100000 in
theorem pplace_any (n : Int) (h1 : n ≤ 33554432) (h2 : -9223372036854775808 ≤ n) (w : World) :
    Calls Try.prog 55 #[.int .i64 n] w fun e w' => e = .returned (.tuple #[.int .i64 ((n.toNat / 64 : Nat) : Int), .int .i64 ((n.toNat % 64 : Nat) : Int)]) ∧ w = w' := by
  obtain ⟨q, hq⟩ : ∃ q, n.toNat / 64 = q := ⟨_, rfl⟩
  obtain ⟨r, hr⟩ : ∃ r, n.toNat % 64 = r := ⟨_, rfl⟩
  have e1 : max n 0 / 64 = (q : Int) := by omega
  have e2 : max n 0 % 64 = (r : Int) := by omega
  rw [hq, hr]
  clear hq hr
  go_enter Try.func55, Try.ntmps55
  go_wp2
  go_ret2
  refine ⟨?_, rfl⟩
  show Ending.returned (.tuple #[.int .i64 (max n 0 / 64), .int .i64 (max n 0 % 64)]) = _
  rw [e1, e2]

/-! ### The carriers -/
def raF (a b c : Nat) : Nat := a * 2 ^ b % 18446744073709551616 ||| c
def raG (a b c : Nat) : Nat := a / 2 ^ (64 - b)
theorem raF_lt (a b c : Nat) (hc : c < 18446744073709551616) : raF a b c < 18446744073709551616 := by
  have e : (18446744073709551616 : Nat) = 2 ^ 64 := by decide
  unfold raF
  rw [e]
  exact Nat.or_lt_two_pow (Nat.mod_lt _ (Nat.two_pow_pos 64)) (by rw [← e]; exact hc)
theorem raG_lt (a b c : Nat) (ha : a < 18446744073709551616) : raG a b c < 18446744073709551616 := Nat.lt_of_le_of_lt (Nat.div_le_self _ _) ha
theorem raise_word (a b c : Nat) (hc : c < 18446744073709551616) : bits .or .u64 (IntKind.u64.wrap ((a : Int) * 2 ^ b)) (c : Int) = ((raF a b c : Nat) : Int) := by
  rw [pow_cast, ← Int.natCast_mul, wrapM]
  exact bits_or_u64_nat _ _ (Nat.mod_lt _ (by decide)) hc
theorem raise_more (a b c : Nat) : (a : Int) / 2 ^ (64 - b) = ((raG a b c : Nat) : Int) := by
  rw [pow_cast, ← Int.natCast_ediv]
  rfl
set_option maxRecDepth 100000 in
theorem praise_any (a b c : Nat) (ha : a < 18446744073709551616) (hb : b ≤ 64) (hc : c < 18446744073709551616) (w : World) :
    Calls Try.prog 57 #[.int .u64 (a : Int), .int .u64 (b : Int), .int .u64 (c : Int)] w
      fun e w' => e = .returned (.tuple #[.int .u64 ((raF a b c : Nat) : Int), .int .u64 ((raG a b c : Nat) : Int)]) ∧ w = w' := by
  have e1 := raise_word a b c hc
  have e2 := raise_more a b c
  obtain ⟨x, hx⟩ : ∃ x, raF a b c = x := ⟨_, rfl⟩
  obtain ⟨y, hy⟩ : ∃ x, raG a b c = x := ⟨_, rfl⟩
  rw [hx] at e1 ⊢
  rw [hy] at e2 ⊢
  clear hx hy
  go_enter Try.func57, Try.ntmps57
  go_wp2
  go_ret2
  exact ⟨rfl, rfl⟩

def tiF (a b c : Nat) : Nat := (a * b + c) % 18446744073709551616
def tiG (a b c : Nat) : Nat := (a * b + c) / 18446744073709551616
theorem tiF_lt (a b c : Nat) : tiF a b c < 18446744073709551616 := Nat.mod_lt _ (by decide)
theorem tiG_lt (a b c : Nat) (ha : a < 18446744073709551616) (hb : b < 18446744073709551616) (hc : c < 18446744073709551616) : tiG a b c < 18446744073709551616 := by
  unfold tiG
  rw [Nat.div_lt_iff_lt_mul (by decide)]
  have h1 : a * b ≤ 18446744073709551615 * 18446744073709551615 := Nat.mul_le_mul (by omega) (by omega)
  omega
/-! ### Compare -/
theorem nani_any (a : Int) (w : World) : Calls Try.prog 67 #[.int .i64 a] w fun e w' => e = .returned (.bool false) ∧ w = w' := by
  go_enter Try.func67, Try.ntmps67
  go_wp2
  go_ret
  exact ⟨rfl, rfl⟩
theorem nanu_any (a : Int) (w : World) : Calls Try.prog 69 #[.int .u64 a] w fun e w' => e = .returned (.bool false) ∧ w = w' := by
  go_enter Try.func69, Try.ntmps69
  go_wp2
  go_ret
  exact ⟨rfl, rfl⟩
set_option maxRecDepth 100000 in
set_option maxHeartbeats 1000000 in
theorem pcmpi_any (a b : Nat) (w : World) :
    Calls Try.prog 48 #[.int .i64 (a : Int), .int .i64 (b : Int)] w
      fun e w' => e = .returned (.int .i64 (cmpi a b)) ∧ w = w' := by
  by_cases h : a < b
  · have hc : cmpi a b = -1 := by unfold cmpi; rw [if_pos h]
    have d1 : decide (a < b) = true := decide_eq_true h
    rw [hc]
    clear hc h
    go_enter Try.func48, Try.ntmps48
    go_wp2_with (go_at_call 67; refine (nani_any _ _).mono ?_; rintro e w' ⟨rfl, rfl⟩)
    go_ret
    exact ⟨rfl, rfl⟩
  · have d1 : decide (a < b) = false := decide_eq_false h
    by_cases h' : b < a
    · have hc : cmpi a b = 1 := by unfold cmpi; rw [if_neg h, if_pos h']
      have d2 : decide (b < a) = true := decide_eq_true h'
      rw [hc]
      clear hc h h'
      go_enter Try.func48, Try.ntmps48
      go_wp2_with (go_at_call 67; refine (nani_any _ _).mono ?_; rintro e w' ⟨rfl, rfl⟩)
      go_ret
      exact ⟨rfl, rfl⟩
    · have hc : cmpi a b = 0 := by unfold cmpi; rw [if_neg h, if_neg h']
      have d2 : decide (b < a) = false := decide_eq_false h'
      rw [hc]
      clear hc h h'
      go_enter Try.func48, Try.ntmps48
      go_wp2_with (go_at_call 67; refine (nani_any _ _).mono ?_; rintro e w' ⟨rfl, rfl⟩)
      go_ret
      exact ⟨rfl, rfl⟩
set_option maxRecDepth 100000 in
set_option maxHeartbeats 1000000 in
theorem pcmpu_any (a b : Nat) (w : World) :
    Calls Try.prog 50 #[.int .u64 (a : Int), .int .u64 (b : Int)] w
      fun e w' => e = .returned (.int .i64 (cmpi a b)) ∧ w = w' := by
  by_cases h : a < b
  · have hc : cmpi a b = -1 := by unfold cmpi; rw [if_pos h]
    have d1 : decide (a < b) = true := decide_eq_true h
    rw [hc]
    clear hc h
    go_enter Try.func50, Try.ntmps50
    go_wp2_with (go_at_call 69; refine (nanu_any _ _).mono ?_; rintro e w' ⟨rfl, rfl⟩)
    go_ret
    exact ⟨rfl, rfl⟩
  · have d1 : decide (a < b) = false := decide_eq_false h
    by_cases h' : b < a
    · have hc : cmpi a b = 1 := by unfold cmpi; rw [if_neg h, if_pos h']
      have d2 : decide (b < a) = true := decide_eq_true h'
      rw [hc]
      clear hc h h'
      go_enter Try.func50, Try.ntmps50
      go_wp2_with (go_at_call 69; refine (nanu_any _ _).mono ?_; rintro e w' ⟨rfl, rfl⟩)
      go_ret
      exact ⟨rfl, rfl⟩
    · have hc : cmpi a b = 0 := by unfold cmpi; rw [if_neg h, if_neg h']
      have d2 : decide (b < a) = false := decide_eq_false h'
      rw [hc]
      clear hc h h'
      go_enter Try.func50, Try.ntmps50
      go_wp2_with (go_at_call 69; refine (nanu_any _ _).mono ?_; rintro e w' ⟨rfl, rfl⟩)
      go_ret
      exact ⟨rfl, rfl⟩

/-! ### The makers -/
theorem pchain_any (fid : Nat) (w : World) :
    Calls Try.prog 62 #[.func (.func fid) #[] #[]] w fun e w' => e = .returned (.func (.func 75) #[] #[.pointer (some ⟨w.heap.size, 0, none⟩), .pointer (some ⟨w.heap.size + 1, 0, none⟩)]) ∧
      w' = (w.alloc (.cells #[.func (.func fid) #[] #[]] 73)).alloc (.cells #[.int .u64 0] 23) := by
  go_enter Try.func62, Try.ntmps62
  go_wp2
  go_ret
  exact ⟨rfl, rfl⟩
theorem pwords_any (A : Option Addr) (L c : Nat) (n : Int) (w : World) :
    Calls Try.prog 63 #[.slice A L c, .int .i64 n] w fun e w' => e = .returned (.func (.func 76) #[] #[.pointer (some ⟨w.heap.size + 1, 0, none⟩), .pointer (some ⟨w.heap.size, 0, none⟩)]) ∧
      w' = (w.alloc (.cells #[.slice A L c] 22)).alloc (.cells #[.int .i64 n] 3) := by
  go_enter Try.func63, Try.ntmps63
  go_wp2
  go_ret
  exact ⟨rfl, rfl⟩
theorem pbackward_any (A : Option Addr) (L c : Nat) (w : World) :
    Calls Try.prog 49 #[.slice A L c] w fun e w' => e = .returned (.func (.func 68) #[] #[.pointer (some ⟨w.heap.size, 0, none⟩)]) ∧
      w' = w.alloc (.cells #[.slice A L c] 22) := by
  go_enter Try.func49, Try.ntmps49
  go_wp2
  go_ret
  exact ⟨rfl, rfl⟩
end Go.Proofs.Ytojpfijjnocboaa
