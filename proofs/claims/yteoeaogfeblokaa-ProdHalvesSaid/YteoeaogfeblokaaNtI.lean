/-
  The document's rows of digits (layer 4): Power, Less.
-/
import Derived.Test.YteoeaogfeblokaaNtH
import Derived.Test.YteoeaogfeblokaaNtC
namespace Go.Proofs.Yteoeaogfeblokaa
open Go.RowKit
set_option linter.unusedVariables false

theorem power_row (n : Nat) : (List.replicate (n / 16 + 1) 0).set (n / 16) (2 ^ (n % 16)) = dig 65536 (2 ^ n) := by
  have hp : 2 ^ (n % 16) < 65536 := by
    have : 2 ^ (n % 16) ≤ 2 ^ 15 := Nat.pow_le_pow_right (by decide) (by omega)
    omega
  have ha : All 65536 ((List.replicate (n / 16 + 1) 0).set (n / 16) (2 ^ (n % 16))) := all_set (all_zeros _ _ (by decide)) _ _ hp
  have hv := val_set 65536 (List.replicate (n / 16 + 1) 0) (n / 16) (2 ^ (n % 16)) (by simp)
  rw [val_zeros, List.getElem_replicate, Nat.mul_zero, Nat.add_zero, Nat.zero_add, two_pow16, ← Nat.pow_add, show 16 * (n / 16) + n % 16 = n from by omega] at hv
  have hn : Nm ((List.replicate (n / 16 + 1) 0).set (n / 16) (2 ^ (n % 16))) := by
    intro hne
    rw [List.getLast_eq_getElem, List.getElem_set]
    simp only [List.length_set, List.length_replicate, Nat.add_sub_cancel, if_true]
    exact Nat.ne_of_gt (Nat.two_pow_pos _)
  have := dig_val 65536 (by decide) _ ha hn
  rw [hv] at this
  exact this.symm

theorem Bk.alloc_set (k : IntKind) (e : TypeId) (w : World) (l : List Nat) (h u : Nat) : Bk k e (w.alloc (.cells ((vs k l).set h (.int k (u : Int))).toArray e)) w.heap.size (l.set h u) := by
  have e1 : vs k (l.set h u) = (vs k l).set h (.int k (u : Int)) := by simp [vs, List.map_set]
  unfold Bk
  rw [e1]
  exact heap_alloc_new w _

set_option maxRecDepth 100000 in
set_option maxHeartbeats 2000000 in
theorem rpower_any (n : Nat) (hn : n < 1099511627776) (w : World) :
    Calls Try.prog 28 #[.int .i64 (n : Int)] w (RwEnd .i64 w (dig 65536 (2 ^ n))) := by
  obtain ⟨i0, hi, hz0, hz1, hz2⟩ := info_parts Try.infoInt
  have HP := Lib.hid (power_row n)
  obtain ⟨h, hh⟩ : ∃ h, n / 16 = h := ⟨_, rfl⟩
  obtain ⟨m, hm⟩ : ∃ m, n % 16 = m := ⟨_, rfl⟩
  rw [hh, hm] at HP
  have r1 : (n : Int) / 16 = (h : Int) := by omega
  have r2 : (n : Int) % 16 = (m : Int) := by omega
  obtain ⟨k, hk⟩ : ∃ k, h + 1 = k := ⟨_, rfl⟩
  have r3 : (h : Int) + 1 = (k : Int) := by omega
  rw [hk] at HP
  have hkl : k < 1099511627776 := by omega
  have hmk := fun W => run_mk (P := Try.prog) .i64 37 3 i0 Try.underlying37 hi hz0 hz1 (by omega) k hkl W
  have hmb : m < 16 := by omega
  have b1 : (0 : Int) ≤ (h : Int) ∧ (h : Int) < (k : Int) := by omega
  have hnb : (n : Int) ≤ 1099511627776 := by omega
  have hhb : (h : Int) ≤ 1099511627776 := by omega
  have HK := Lib.hid hkl
  have HH := Lib.hid (show h < k by omega)
  clear hn hh hm hk hkl
  go_enter Try.func28, Try.ntmps28
  go_wp2
  clear hmk
  go_loop [4, 5] (fun v s => ∃ j : Nat, j ≤ m ∧ s = .int .i64 (j : Int) ∧ v = .int .i64 ((2 ^ j : Nat) : Int)) (fun _ s => m - (intOf s).toNat)
  case atStart => exact ⟨0, Nat.zero_le _, rfl, rfl⟩
  case round =>
    obtain ⟨j, hj, rfl, rfl⟩ := hrel
    by_cases hlt : j < m
    · obtain ⟨P, hP⟩ : ∃ P, 2 ^ j = P := ⟨_, rfl⟩
      have hPb : P ≤ 32768 := by rw [← hP]; exact Nat.pow_le_pow_right (by omega) (show j ≤ 15 by omega)
      have hP2 : Hid (2 ^ (j + 1) = P + P) := by show 2 ^ (j + 1) = P + P; rw [Nat.pow_succ, hP]; omega
      have hPi : (P : Int) ≤ 32768 := by omega
      rw [hP]
      clear hP hPb
      go_wp2
      go_round
      case rel => exact ⟨j + 1, by omega, by go_num, by rw [hP2.out]; go_num⟩
      case measure => simp [intOf] <;> omega
    · have hjm : j = m := by omega
      subst hjm
      obtain ⟨P, hP⟩ : ∃ P, 2 ^ j = P := ⟨_, rfl⟩
      rw [hP] at HP ⊢
      have hc := (Bk.made .i64 3 w k).cell h (by simp; exact HH.out)
      have hf := (Bk.made .i64 3 w k).free h
      have hS := Lib.hid (Bk.alloc_set .i64 3 w (List.replicate k 0) h P)
      rw [HP.out] at hS
      have hlenk := congrArg List.length HP.out
      simp only [List.length_set, List.length_replicate] at hlenk
      have HL := Lib.hid hlenk
      clear hP hlenk
      go_wp2
      go_ret
      exact RwEnd.mk (hS.out.rw HL.out (by have := HK.out; unfold maxLen; omega)) ((Bl.refl w).alloc _)
end Go.Proofs.Yteoeaogfeblokaa
