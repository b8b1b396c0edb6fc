/-
  A whole number of an unsigned kind of 64 or 32 bits, as a natural number; one of 64 bits with a sign, by its bounds.
-/
import Derived.OpenShut
namespace Go.Proofs.Ytdoohlehglakfaa
theorem u64_nat {a : Int} (h : (Lit.int .u64 a).wf = true) : ∃ n : Nat, a = (n : Int) ∧ n < 18446744073709551616 := by
  have hb := bounds_u64 h
  exact ⟨a.toNat, by omega, by omega⟩
theorem u32_nat {a : Int} (h : (Lit.int .u32 a).wf = true) : ∃ n : Nat, a = (n : Int) ∧ n < 4294967296 := by
  have hb := bounds_u32 h
  exact ⟨a.toNat, by omega, by omega⟩
end Go.Proofs.Ytdoohlehglakfaa
