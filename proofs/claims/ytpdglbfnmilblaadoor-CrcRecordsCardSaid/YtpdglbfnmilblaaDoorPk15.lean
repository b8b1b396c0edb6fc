/-
  Package crc: Sum.
-/
import Derived.Test.YtpdglbfnmilblaaDoorPk10
namespace Go.Proofs.YtpdglbfnmilblaaDoor
open Go.RowKit
set_option linter.unusedVariables false
set_option linter.unusedSimpArgs false

theorem crIter_all {l : List Nat} (ha : All 256 l) (i : Nat) (h : i < l.length) : crL 4294967295 (l.take (i + 1)) = crIter (crL 4294967295 (l.take i) ^^^ l[i]) 8 := by
  rw [crL_take _ _ _ h, crK_iter _ (ha i h)]
theorem crStep_mul (v : Nat) : crStep v = v / 2 ^^^ 3988292384 * (v % 2) := by
  unfold crStep
  rcases Nat.mod_two_eq_zero_or_one v with h | h
  · rw [h, if_pos rfl, Nat.mul_zero, Nat.xor_zero]
  · rw [h, if_neg (by decide), Nat.mul_one]

set_option maxRecDepth 100000 in
set_option maxHeartbeats 4000000 in
theorem psum_any (l : List Nat) (ha : All 256 l) (hl : l.length ≤ 281474976710656) (w : World) :
    Calls Tryd.prog 17 #[.string (bs l)] w fun e w' => e = .returned (.int .u32 ((crSum l : Nat) : Int)) ∧ w = w' := by
  have hz := bs_size l
  obtain ⟨n, hn⟩ : ∃ n, l.length = n := ⟨_, rfl⟩
  rw [hn] at hz hl
  have HN := Lib.hid hn
  have HG := Lib.hid (fun i h h' => bs_get ha i h h')
  obtain ⟨s, hs⟩ : ∃ s, bs l = s := ⟨_, rfl⟩
  rw [hs] at hz HG ⊢
  have nb : (n : Int) ≤ 281474976710656 := by omega
  have HA := Lib.hid ha
  have HT := Lib.hid (fun i (h : i < l.length) => crIter_all ha i h)
  have HE : Hid (crL 4294967295 (l.take n) = crL 4294967295 l) := by show _ = _; rw [← hn, List.take_length]
  have HV : Hid (∀ i, crL 4294967295 (l.take i) < 4294967296) := fun i => crL_lt (by decide) _
  have HC : Hid (crSum l = 4294967295 - crL 4294967295 l) := rfl
  obtain ⟨S, hS⟩ : ∃ S, crSum l = S := ⟨_, rfl⟩
  rw [hS] at HC ⊢
  clear hn hl hS ha hs
  go_enter Tryd.func17, Tryd.ntmps17
  go_wp2
  go_loop [3, 7] (fun v i => ∃ k : Nat, k ≤ n ∧ i = .int .i64 (k : Int) ∧ v = .int .u32 ((crL 4294967295 (l.take k) : Nat) : Int)) (fun _ i => n - (intOf i).toNat)
  case atStart => exact ⟨0, Nat.zero_le _, rfl, rfl⟩
  case round =>
    obtain ⟨k, hk, rfl, rfl⟩ := hrel
    by_cases hlt : k < n
    · have hkl : k < l.length := by rw [HN.out]; exact hlt
      have hg := HG.out k hkl
      have hx := HA.out k hkl
      have ht := HT.out k hkl
      have hv := HV.out k
      obtain ⟨x, ex⟩ : ∃ x, l[k] = x := ⟨_, rfl⟩
      rw [ex] at hg hx ht
      obtain ⟨V, eV⟩ : ∃ V, crL 4294967295 (l.take k) = V := ⟨_, rfl⟩
      rw [eV] at ht hv ⊢
      have hU : V ^^^ x < 4294967296 := by
        have := Nat.xor_lt_two_pow (x := V) (y := x) (n := 32) (by rw [p32]; exact hv) (by rw [p32]; omega)
        rwa [p32] at this
      have w0 : bits .xor .u32 (V : Int) (x : Int) = ((V ^^^ x : Nat) : Int) := u32_xor_nat _ _ hv (by omega)
      have w9 : IntKind.u32.wrap (x : Int) = (x : Int) := by rw [IntKind.wrap_u32]; omega
      obtain ⟨U, eU⟩ : ∃ V2, V ^^^ x = V2 := ⟨_, rfl⟩
      rw [eU] at ht hU w0
      have HT1 := Lib.hid ht
      have HU := Lib.hid hU
      have vb : (V : Int) ≤ 4294967295 := by omega
      have ub : (U : Int) ≤ 4294967295 := by omega
      have xb : (x : Int) ≤ 255 := by omega
      have b1 : (0 : Int) ≤ (k : Int) ∧ (k : Int) < (n : Int) := by omega
      have HK1 : Hid (k + 1 ≤ n) := hlt
      clear ht hv eV ex hU eU hx
      go_wp2
      go_loop [3, 16] (fun v i => ∃ j : Nat, j ≤ 8 ∧ i = .int .i64 (j : Int) ∧ v = .int .u32 ((crIter U j : Nat) : Int)) (fun _ i => 8 - (intOf i).toNat)
      case atStart => exact ⟨0, by omega, rfl, rfl⟩
      case round =>
        obtain ⟨j, hj, rfl, rfl⟩ := hrel
        by_cases hj8 : j < 8
        · have hv := crIter_lt HU.out j
          have hst : crIter U (j + 1) = crIter U j / 2 ^^^ 3988292384 * (crIter U j % 2) := crStep_mul _
          obtain ⟨v, ev⟩ : ∃ v, crIter U j = v := ⟨_, rfl⟩
          rw [ev] at hv hst ⊢
          have w3 : bits .and .u32 (v : Int) 1 = ((v % 2 : Nat) : Int) := by have := u32_and_nat v 1 (by omega) (by decide); rw [Nat.and_one_is_mod] at this; exact this
          have hd : v % 2 < 2 := Nat.mod_lt _ (by decide)
          obtain ⟨d, ed⟩ : ∃ q, v % 2 = q := ⟨_, rfl⟩
          rw [ed] at w3 hd hst
          have w4 : bits .xor .u32 ((v / 2 : Nat) : Int) ((3988292384 * d : Nat) : Int) = ((v / 2 ^^^ 3988292384 * d : Nat) : Int) := u32_xor_nat _ _ (by omega) (by omega)
          obtain ⟨m, em⟩ : ∃ m, 3988292384 * d = m := ⟨_, rfl⟩
          have w6 : (3988292384 : Int) * (d : Int) = (m : Int) := by omega
          have w7 : IntKind.u32.wrap (m : Int) = (m : Int) := by rw [IntKind.wrap_u32]; omega
          rw [em] at w4 hst
          obtain ⟨p, ep⟩ : ∃ p, v / 2 = p := ⟨_, rfl⟩
          have w5 : (v : Int) / 2 = (p : Int) := by omega
          rw [ep] at w4 hst
          obtain ⟨q, eq⟩ : ∃ q, p ^^^ m = q := ⟨_, rfl⟩
          rw [eq] at w4 hst
          have HS := Lib.hid hst
          have vb : (v : Int) ≤ 4294967295 := by omega
          have mb : (m : Int) ≤ 4294967295 := by omega
          have db : (d : Int) ≤ 1 := by omega
          have jb : (j : Int) ≤ 8 := by omega
          have HJ : Hid (j + 1 ≤ 8) := hj8
          clear hst ev hv ed hd em ep eq
          go_wp2
          go_round
          case rel => exact ⟨j + 1, HJ.out, by go_num, by rw [HS.out]⟩
          case measure => have := HJ.out; simp [intOf] <;> omega
        · obtain rfl : j = 8 := by omega
          rw [← HT1.out]
          clear hj hj8
          go_wp2
          go_round
          case rel => exact ⟨k + 1, HK1.out, by go_num, rfl⟩
          case measure => have := HK1.out; simp [intOf] <;> omega
    · obtain rfl : k = n := by omega
      have hv := HV.out k
      rw [HE.out] at hv ⊢
      obtain ⟨V, eV⟩ : ∃ V, crL 4294967295 l = V := ⟨_, rfl⟩
      have hc := HC.out
      rw [eV] at hv hc ⊢
      have w1 : (4294967295 : Int) - (V : Int) = (S : Int) := by omega
      have w2 : IntKind.u32.wrap (S : Int) = (S : Int) := by rw [IntKind.wrap_u32]; omega
      have w3 : bits .xor .u32 IntKind.u32.max (V : Int) = (S : Int) := by
        have := u32_xor_nat 4294967295 V (by decide) hv
        rw [Nat.xor_comm, crNot hv, ← hc] at this
        exact this
      have sb : (S : Int) ≤ 4294967295 := by omega
      clear hv hc eV
      go_wp2
      go_ret
      exact ⟨rfl, rfl⟩
end Go.Proofs.YtpdglbfnmilblaaDoor
