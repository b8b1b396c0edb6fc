/-
  Package prod: split, and the closure that makes the smaller products, by induction over how many words there are.
-/
import Derived.Test.YteoeaogfeblokaaProdA
import Derived.Test.YteoeaogfeblokaaProdC
import Derived.Test.YteoeaogfeblokaaProdF
import Derived.Test.YteoeaogfeblokaaNatPl
import Derived.Deep.RegionHeld3
namespace Go.Proofs.Yteoeaogfeblokaa
open Go.RowKit
set_option linter.unusedVariables false
set_option linter.unusedSimpArgs false

/-- The closure that captures the cells p (how few words are never split) and q (itself). -/
def kF (p q : Nat) : Value := .func (.func 32) #[] #[.pointer (some ⟨p, 0, none⟩), .pointer (some ⟨q, 0, none⟩)]
def CKar (k : Nat) : Prop := ∀ (W : World) (p q least : Nat) (v u : Value) (X Y : Nat), W.cell? ⟨p, 0, none⟩ = some (.int .i64 (least : Int)) → W.cell? ⟨q, 0, none⟩ = some (kF p q) → p < W.heap.size → q < W.heap.size → 3 ≤ least → least ≤ 9223372036854775807 →
  Rw .u64 W v (dig 18446744073709551616 X) → Rw .u64 W u (dig 18446744073709551616 Y) → (dig 18446744073709551616 X).length ≤ k → (dig 18446744073709551616 Y).length ≤ k → k ≤ 200000 →
  Calls Try.prog 32 #[v, u, .pointer (some ⟨p, 0, none⟩), .pointer (some ⟨q, 0, none⟩)] W (RwEnd .u64 W (dig 18446744073709551616 (X * Y)))
def CSpl (k : Nat) : Prop := ∀ (W : World) (p q least : Nat) (v u : Value) (X Y : Nat), W.cell? ⟨p, 0, none⟩ = some (.int .i64 (least : Int)) → W.cell? ⟨q, 0, none⟩ = some (kF p q) → p < W.heap.size → q < W.heap.size → 3 ≤ least → least ≤ 9223372036854775807 →
  Rw .u64 W v (dig 18446744073709551616 X) → Rw .u64 W u (dig 18446744073709551616 Y) → (dig 18446744073709551616 X).length ≤ k → (dig 18446744073709551616 Y).length ≤ k → k ≤ 200000 → least < (dig 18446744073709551616 X).length → least < (dig 18446744073709551616 Y).length →
  Calls Try.prog 33 #[.agg #[kF p q], v, u] W (RwEnd .u64 W (dig 18446744073709551616 (X * Y)))

theorem rw_nu {W : World} {v : Value} {X : Nat} (h : Rw .u64 W v (dig 18446744073709551616 X)) (hl : (dig 18446744073709551616 X).length < 1048576) : Nu W v X :=
  ⟨_, h, all_dig _ (by decide) X, hl, val_dig _ (by decide) X⟩
theorem sz_dig (X : Nat) : Sz (dig 18446744073709551616 X).length X := dig_lt _ (by decide) X

set_option maxRecDepth 100000 in
set_option maxHeartbeats 4000000 in
theorem ck_of (k : Nat) (hS : CSpl k) : CKar k := by
  intro W p q least v u X Y hp hq hpl hql h3 hb hv hu hx hy hk
  have KS := Lib.hid (pSchool W v u X Y k k (rw_nu hv (by omega)) (rw_nu hu (by omega)) ((sz_dig X).mono hx) ((sz_dig Y).mono hy) (by omega))
  obtain ⟨A, c, rfl, _, _, _, _⟩ := id hv
  obtain ⟨B, d, rfl, _, _, _, _⟩ := id hu
  obtain ⟨n, hn⟩ : ∃ n, (dig 18446744073709551616 X).length = n := ⟨_, rfl⟩
  obtain ⟨m, hm⟩ : ∃ n, (dig 18446744073709551616 Y).length = n := ⟨_, rfl⟩
  have hnb : (n : Int) ≤ 200000 := by omega
  have hmb : (m : Int) ≤ 200000 := by omega
  by_cases hle : min n m ≤ least
  · have b1 : decide (min (n : Int) (m : Int) ≤ (least : Int)) = true := decide_eq_true (by omega)
    clear hS hv hu
    rw [hn, hm] at KS ⊢
    clear hn hm hx hy hle hk h3
    go_enter Try.func32, Try.ntmps32
    go_wp2_with (go_at_call 14; (with_reducible refine KS.out.mono ?_); rintro e w1 ⟨v1, rfl, hr1, hb1⟩)
    go_ret
    exact RwEnd.mk hr1 hb1
  · have b1 : decide (min (n : Int) (m : Int) ≤ (least : Int)) = false := decide_eq_false (by omega)
    have KP := Lib.hid (hS W p q least _ _ X Y hp hq hpl hql h3 hb hv hu hx hy hk (by omega) (by omega))
    clear hS hv hu KS
    rw [hn, hm] at KP ⊢
    clear hn hm hx hy hle hk h3
    unfold kF at hq KP
    go_enter Try.func32, Try.ntmps32
    go_wp2_with (go_at_call 33; (with_reducible refine KP.out.mono ?_); rintro e w1 ⟨v1, rfl, hr1, hb1⟩)
    go_ret
    exact RwEnd.mk hr1 hb1
end Go.Proofs.Yteoeaogfeblokaa
