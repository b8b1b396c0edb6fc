/-
  The calls of package mont that divide by 2^32 and multiply: what they answer.
-/
import Derived.Test.YtpdbdnhjibkflaaChecked
import Derived.Test.YtpdbdnhjibkflaaWordP
import Derived.Test.YtpdbdnhjibkflaaMontM
import Derived.Test.YtpdbdnhjibkflaaGr
namespace Go.Proofs.Ytpdbdnhjibkflaa
open Go.RowKit
set_option linter.unusedVariables false

theorem below_any (m a : Nat) (hm : m < 4294967296) (ha : a < 4294967296) (w : World) :
    Calls Try.prog 23 #[.int .u32 (m : Int), .int .u32 (a : Int)] w fun e w' => e = .returned (.int .u32 ((bel m a : Nat) : Int)) ∧ w = w' := by
  by_cases h : m ≤ a
  · have e : IntKind.u32.wrap ((a : Int) - (m : Int)) = ((bel m a : Nat) : Int) := by
      unfold bel; rw [if_pos h, IntKind.wrap_u32]; omega
    go_enter Try.func23, Try.ntmps23
    go_wp2
    go_ret
    first | exact ⟨rfl, rfl⟩ | exact ⟨int_eq e, rfl⟩
  · have e : bel m a = a := by unfold bel; rw [if_neg h]
    have E := Lib.hid e
    clear e
    go_enter Try.func23, Try.ntmps23
    go_wp2
    go_ret
    exact ⟨int_eq (by rw [E.out]), rfl⟩

/-- A form's parameters. -/
def frm (m n o s : Nat) : Value := .agg #[.int .u32 (m : Int), .int .u32 (n : Int), .int .u32 (o : Int), .int .u32 (s : Int)]
/-- The parameters of a number that has a form. -/
structure Pm (m n o s : Nat) : Prop where
  odd : m % 2 = 1
  lo : 3 ≤ m
  hi : m < 2147483648
  neg : n < 4294967296
  ok : NegOk m n
  one : o = fm m 1
  sq : s = fm m 1 * fm m 1 % m

theorem redc_num {m n o s : Nat} (p : Pm m n o s) (t : Nat) (ht : t < m * 4294967296) : ∃ q z v u : Nat,
    (t : Int) % 4294967296 * (n : Int) % 4294967296 = (q : Int) ∧ IntKind.u64.wrap (m : Int) = (m : Int) ∧ IntKind.u64.wrap ((q : Int) * (m : Int)) = (z : Int) ∧
    IntKind.u64.wrap ((t : Int) + (z : Int)) = (v : Int) ∧ (v : Int) / 4294967296 % 4294967296 = (u : Int) ∧ u < 4294967296 ∧ bel m u = rd m t := by
  have hm := p.hi
  have ht' := tm_lt m t hm ht
  have hq := rqm_lt m n t hm
  obtain ⟨hu, hb⟩ := redc_eq m n t p.odd p.ok ht
  have e : rs m n t = t + rq n t * m := rfl
  refine ⟨rq n t, rq n t * m, rs m n t, rs m n t / 4294967296, ?_, ?_, ?_, ?_, ?_, ?_, hb⟩
  · unfold rq; simp only [Int.natCast_emod, Int.natCast_mul]; rfl
  · rw [IntKind.wrap_u64]; omega
  · rw [← Int.natCast_mul, wrapN _ (by omega)]
  · rw [e, IntKind.wrap_u64]; omega
  · omega
  · omega

set_option maxRecDepth 100000 in
set_option maxHeartbeats 400000 in
theorem redc_any {m n o s : Nat} (p : Pm m n o s) (t : Nat) (ht : t < m * 4294967296) (w : World) :
    Calls Try.prog 16 #[frm m n o s, .int .u64 (t : Int)] w fun e w' => e = .returned (.int .u32 ((rd m t : Nat) : Int)) ∧ Gr w w' := by
  unfold frm
  obtain ⟨q, z, v, u, r1, r2, r3, r4, r5, hu, hb⟩ := redc_num p t ht
  have HB := Lib.hid hb
  have B := Lib.hid (fun w => below_any m u (by have := p.hi; omega) hu w)
  clear hb p ht hu
  go_enter Try.func16, Try.ntmps16
  go_wp2_with (go_at_call 23; (with_reducible refine (B.out _).mono ?_); rintro e w' ⟨rfl, rfl⟩)
  go_ret
  exact ⟨int_eq (by rw [HB.out]), (Gr.refl _).alloc _ _⟩
end Go.Proofs.Ytpdbdnhjibkflaa
