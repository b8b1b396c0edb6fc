/-
  The document's bit and Right of layer 15; bytes as a string.
-/
import Derived.Test.YtgbeflocojmhhaaDkG
namespace Go.Proofs.Ytgbeflocojmhhaa
open Go.RowKit
set_option linter.unusedVariables false
set_option linter.unusedSimpArgs false

/-- A slice of bytes as a string. -/
theorem bytes_conv {P : Program} (w : World) (src dst e : TypeId) (hs : P.underlying src = some (.slice e)) (he : P.underlying e = some (.int .u8)) (hd : P.underlying dst = some .string) {v : Value} (R : List UInt8) (h : Rw .u8 w v (R.map UInt8.toNat)) :
    (convert src dst v).run P w = .ok (.string ⟨R.toArray⟩) w := by
  obtain ⟨A, c, rfl, h1, h2, h3, h4⟩ := h
  rw [List.length_map] at h1 ⊢
  rcases Nat.eq_zero_or_pos R.length with h0 | h0
  · obtain rfl := List.length_eq_zero_iff.1 h0
    rw [run_convert_bytes_string w src dst e A _ c hs he hd]
    cases A with
    | none => simp [Conv.bytesToString]; rfl
    | some ad =>
      have hl := run_loadCells_list (P := P) w ad [] (fun j v hj => by simp at hj)
      exact run_bytesToString w ad 0 c [] hl
  · obtain ⟨ad, rfl, hb, hc⟩ := h4 (by rw [List.length_map]; exact h0)
    exact run_convert_bytes_back (P := P) w src dst e ad c R hs he hd (fun j hj => by
      rw [hc j (by rw [List.length_map]; exact hj), List.getElem_map])
set_option maxRecDepth 100000 in
set_option maxHeartbeats 4000000 in
theorem rbit_any (m k : Nat) (hm : m < 18446744073709551616) (hk : k ≤ 64) (w : World) :
    Calls Try.prog 37 #[.int .u64 (m : Int), .int .i64 (k : Int)] w fun e w' => e = .returned (.bool (decide (m / 2 ^ k % 2 = 1))) ∧ w = w' := by
  have HS : Hid (∀ i, i < k → m / 2 ^ (k - (i + 1)) / 2 = m / 2 ^ (k - i)) := fun i hi => by
    rw [Nat.div_div_eq_div_mul, ← Nat.pow_succ]
    congr 2
    omega
  have HB : Hid (∀ i, m / 2 ^ i < 18446744073709551616) := fun i => Nat.lt_of_le_of_lt (Nat.div_le_self _ _) hm
  have HE : Hid (m / 2 ^ (k - 0) = m / 2 ^ k) := rfl
  have H0 : Hid (m / 2 ^ (k - k) = m) := by show _ = _; rw [Nat.sub_self]; simp
  obtain ⟨R, hR⟩ : ∃ R, m / 2 ^ k = R := ⟨_, rfl⟩
  rw [hR] at HE ⊢
  obtain ⟨B, hBe⟩ : ∃ B, decide (R % 2 = 1) = B := ⟨_, rfl⟩
  have HBe := Lib.hid hBe
  rw [hBe]
  have kb : (k : Int) ≤ 64 := by omega
  clear hm hk hR hBe
  go_enter Try.func37, Try.ntmps37
  go_wp2
  go_loop [0, 1] (fun x s => ∃ i : Nat, i ≤ k ∧ s = .int .i64 (i : Int) ∧ x = .int .u64 ((m / 2 ^ (k - i) : Nat) : Int)) (fun _ s => (intOf s).toNat)
  case atStart => exact ⟨k, Nat.le_refl _, rfl, by rw [H0.out]⟩
  case round =>
    obtain ⟨i, hi, rfl, rfl⟩ := hrel
    by_cases h0 : i = 0
    · subst h0
      rw [HE.out]
      have hb := HB.out (k - 0)
      rw [HE.out] at hb
      clear hi hb
      rcases Nat.mod_two_eq_zero_or_one R with h1 | h1
      · have b1 : (R : Int) % 2 = 0 := by omega
        have HQ : Hid (B = false) := by show _ = _; rw [← HBe.out, h1]; rfl
        clear h1
        go_wp2
        go_ret
        exact ⟨ret_b HQ.out.symm, rfl⟩
      · have b1 : (R : Int) % 2 = 1 := by omega
        have HQ : Hid (B = true) := by show _ = _; rw [← HBe.out, h1]; rfl
        clear h1
        go_wp2
        go_ret
        exact ⟨ret_b HQ.out.symm, rfl⟩
    · obtain ⟨j, rfl⟩ : ∃ j, i = j + 1 := ⟨i - 1, by omega⟩
      have hs := HS.out j (by omega)
      have hb := HB.out (k - (j + 1))
      obtain ⟨x, hx⟩ : ∃ x, m / 2 ^ (k - (j + 1)) = x := ⟨_, rfl⟩
      rw [hx] at hs hb ⊢
      obtain ⟨y, hy⟩ : ∃ y, m / 2 ^ (k - j) = y := ⟨_, rfl⟩
      have HY := Lib.hid hy
      rw [hy] at hs
      have b1 : (x : Int) / 2 = (y : Int) := by omega
      have b5 : (y : Int) ≤ 18446744073709551615 := by omega
      have b2 : (0 : Int) < ((j + 1 : Nat) : Int) := by omega
      have HJ : Hid (j ≤ k) := by show j ≤ k; omega
      have b3 : ((j + 1 : Nat) : Int) - 1 = (j : Int) := by omega
      have b4 : ((j + 1 : Nat) : Int) ≤ 65 := by omega
      clear hs hx hy h0 hi hb
      go_wp2
      go_round
      case rel => exact ⟨j, HJ.out, by go_num, by rw [HY.out]⟩
      case measure => simp [intOf] <;> omega
end Go.Proofs.Ytgbeflocojmhhaa
