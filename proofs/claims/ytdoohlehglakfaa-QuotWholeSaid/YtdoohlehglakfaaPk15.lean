/-
  Package nat: what the four chains make: sums, differences, products with a word, moves. No walk.
-/
import Derived.Test.YtdoohlehglakfaaPk14
namespace Go.Proofs.Ytdoohlehglakfaa
open Go.RowKit
set_option linter.unusedVariables false

theorem rowf_getDs (B : Nat) (hB : 0 < B) (X n : Nat) (l : List Nat) (hl : All B l) (hv : val B l = X) (h : l.length ≤ n) : l ++ List.replicate (n - l.length) 0 = rowf n (wd B X) := by
  rw [wide_rowf l n h]
  refine rowf_congr fun i _ => ?_
  have := wd_getD B hB l hl i
  rw [hv] at this
  rw [← this]
  simp
theorem mgF_eq (F : Nat → Nat → Nat → Nat) (m : List Nat) (i a c : Nat) : mgF F m i a c = F a (m[i]?.getD 0) c := rfl
theorem spF_eq (F : Nat → Nat → Nat → Nat) (l : List Nat) (b i a c : Nat) : spF F l b i a c = F (l[i]?.getD 0) b c := rfl
theorem un_bit {c : Nat} (h : c ≤ 1) : un c = c := by
  unfold un
  split <;> omega

theorem wds_add (m : List Nat) (hm : All 18446744073709551616 m) : Wds (mgF addS m) (mgF addC m) := fun i a c ha hc => by
  have := getD_lt hm i
  have hu := un_le c
  rw [mgF_eq, mgF_eq]
  unfold addS addC
  omega
theorem add_made (l m : List Nat) (hl : All 18446744073709551616 l) (hm : All 18446744073709551616 m) (n : Nat) (h1 : l.length < n) (h2 : m.length < n) :
    val 18446744073709551616 (mrun (mgF addS m) (mgF addC m) (l ++ List.replicate (n - l.length) 0) (List.range n)).1 = val 18446744073709551616 l + val 18446744073709551616 m := by
  have hB : (0 : Nat) < 18446744073709551616 := by decide
  obtain ⟨X, hX⟩ : ∃ X, val 18446744073709551616 l = X := ⟨_, rfl⟩
  obtain ⟨Y, hY⟩ : ∃ X, val 18446744073709551616 m = X := ⟨_, rfl⟩
  have hlx : X < 18446744073709551616 ^ (n - 1) := by rw [← hX]; exact Nat.lt_of_lt_of_le (val_lt _ hB l hl) (Nat.pow_le_pow_right hB (by omega))
  have hly : Y < 18446744073709551616 ^ (n - 1) := by rw [← hY]; exact Nat.lt_of_lt_of_le (val_lt _ hB m hm) (Nat.pow_le_pow_right hB (by omega))
  have hs := add_lt _ (by decide) X Y (n - 1) hlx hly
  rw [show n - 1 + 1 = n by omega] at hs
  rw [rowf_getDs _ hB X n l hl hX (by omega), hX, hY]
  have hrec := mrun_end (mgF addS m) (mgF addC m) n (wd 18446744073709551616 X) (wd 18446744073709551616 (X + Y)) (addc 18446744073709551616 X Y) (addc_zero _ _ _) (fun i _ => by
    have e1 : m[i]?.getD 0 = wd 18446744073709551616 Y i := by have := wd_getD _ hB m hm i; rw [hY] at this; rw [← this]; simp
    have e2 := un_bit (addc_le _ hB X Y i)
    have h3 := add_step _ hB X Y i
    have h4 := wd_lt _ hB (X + Y) i
    rw [mgF_eq, mgF_eq]
    unfold addS addC
    rw [e1, e2, h3]
    omega)
  rw [hrec]
  exact rowf_wd _ (by decide) _ n hs

theorem subD_lt (a b c : Nat) : subD a b c < 18446744073709551616 := by
  unfold subD
  exact Nat.mod_lt _ (by decide)
theorem subB_lt (a b c : Nat) : subB a b c < 18446744073709551616 := by
  unfold subB
  by_cases h : a < b + un c
  · rw [if_pos h]; decide
  · rw [if_neg h]; decide
theorem wds_sub (m : List Nat) (hm : All 18446744073709551616 m) : Wds (mgF subD m) (mgF subB m) := fun i a c ha hc => by
  rw [mgF_eq, mgF_eq]
  exact ⟨subD_lt _ _ _, subB_lt _ _ _⟩
theorem subD_one (B x y z c d : Nat) (h3 : x + B * d = y + z + c) (hx : x < B) (hy : y < B) (hz : z < B) (hc : c ≤ 1) (hd : d ≤ 1) : (x + B - y - c) % B = z ∧ (if x < y + c then 1 else 0) = d := by
  rcases Nat.le_one_iff_eq_zero_or_eq_one.1 hd with rfl | rfl
  · rw [Nat.mul_zero, Nat.add_zero] at h3
    rw [if_neg (by omega), show x + B - y - c = z + B by omega, Nat.add_mod_right, Nat.mod_eq_of_lt hz]
    exact ⟨rfl, rfl⟩
  · rw [Nat.mul_one] at h3
    rw [if_pos (by omega), show x + B - y - c = z by omega, Nat.mod_eq_of_lt hz]
    exact ⟨rfl, rfl⟩
theorem sub_one (x y z c d : Nat) (h3 : x + 18446744073709551616 * d = y + z + c) (hx : x < 18446744073709551616) (hy : y < 18446744073709551616) (hz : z < 18446744073709551616) (hc : c ≤ 1) (hd : d ≤ 1) : subD x y c = z ∧ subB x y c = d := by
  unfold subD subB
  rw [un_bit hc]
  exact subD_one _ x y z c d h3 hx hy hz hc hd
theorem sub_made (l m : List Nat) (hl : All 18446744073709551616 l) (hm : All 18446744073709551616 m) (h : val 18446744073709551616 m ≤ val 18446744073709551616 l) (n : Nat) (h1 : l.length = n) :
    val 18446744073709551616 (mrun (mgF subD m) (mgF subB m) (l ++ List.replicate (n - l.length) 0) (List.range n)).1 = val 18446744073709551616 l - val 18446744073709551616 m := by
  have hB : (0 : Nat) < 18446744073709551616 := by decide
  obtain ⟨X, hX⟩ : ∃ X, val 18446744073709551616 l = X := ⟨_, rfl⟩
  obtain ⟨Y, hY⟩ : ∃ X, val 18446744073709551616 m = X := ⟨_, rfl⟩
  have hlx : X < 18446744073709551616 ^ n := by rw [← hX, ← h1]; exact val_lt _ hB l hl
  rw [hX, hY] at h
  rw [rowf_getDs _ hB X n l hl hX (by omega), hX, hY]
  have hrec := mrun_end (mgF subD m) (mgF subB m) n (wd 18446744073709551616 X) (wd 18446744073709551616 (X - Y)) (subc 18446744073709551616 X Y) (subc_zero _ _ _) (fun i _ => by
    have e1 : m[i]?.getD 0 = wd 18446744073709551616 Y i := by have := wd_getD _ hB m hm i; rw [hY] at this; rw [← this]; simp
    rw [mgF_eq, mgF_eq, e1]
    exact sub_one _ _ _ _ _ (sub_step _ hB X Y i h) (wd_lt _ hB X i) (wd_lt _ hB Y i) (wd_lt _ hB (X - Y) i) (subc_le _ X Y i) (subc_le _ X Y (i + 1)))
  rw [hrec]
  exact rowf_wd _ (by decide) _ n (by omega)

theorem wds_times (l : List Nat) (hl : All 18446744073709551616 l) (y : Nat) (hy : y < 18446744073709551616) : Wds (spF tiF l y) (spF tiG l y) := fun i a c ha hc => by
  rw [spF_eq, spF_eq]
  exact ⟨tiF_lt _ _ _, tiG_lt _ _ _ (getD_lt hl i) hy hc⟩
theorem times_made (l : List Nat) (hl : All 18446744073709551616 l) (y : Nat) (hy : y < 18446744073709551616) :
    val 18446744073709551616 (mrun (spF tiF l y) (spF tiG l y) (List.replicate (l.length + 1) 0) (List.range (l.length + 1))).1 = val 18446744073709551616 l * y := by
  have hB : (0 : Nat) < 18446744073709551616 := by decide
  obtain ⟨X, hX⟩ : ∃ X, val 18446744073709551616 l = X := ⟨_, rfl⟩
  obtain ⟨n, hn⟩ : ∃ n, l.length = n := ⟨_, rfl⟩
  have hlx : X < 18446744073709551616 ^ n := by rw [← hX, ← hn]; exact val_lt _ hB l hl
  have hs : X * y < 18446744073709551616 ^ (n + 1) := by rw [Nat.pow_succ]; exact Nat.mul_lt_mul'' hlx hy
  rw [hn, hX, ← rowf_zero]
  have hrec := mrun_end (spF tiF l y) (spF tiG l y) (n + 1) (fun _ => 0) (wd 18446744073709551616 (X * y)) (mulc 18446744073709551616 X y) (mulc_zero _ _ _) (fun i _ => by
    have e1 : l[i]?.getD 0 = wd 18446744073709551616 X i := by have := wd_getD _ hB l hl i; rw [hX] at this; rw [← this]; simp
    have h3 := mul_step _ hB X y i
    have h4 := wd_lt _ hB (X * y) i
    rw [spF_eq, spF_eq]
    unfold tiF tiG
    rw [e1, h3]
    omega)
  rw [hrec]
  exact rowf_wd _ (by decide) _ (n + 1) hs

theorem wds_raise (l : List Nat) (hl : All 18446744073709551616 l) (s : Nat) : Wds (spF raF l s) (spF raG l s) := fun i a c ha hc => by
  rw [spF_eq, spF_eq]
  exact ⟨raF_lt _ _ _ hc, raG_lt _ _ _ (getD_lt hl i)⟩
theorem raise_made (l : List Nat) (hl : All 18446744073709551616 l) (s : Nat) (hs : s ≤ 64) :
    val 18446744073709551616 (mrun (spF raF l s) (spF raG l s) (List.replicate (l.length + 1) 0) (List.range (l.length + 1))).1 = val 18446744073709551616 l * 2 ^ s := by
  have hB : (0 : Nat) < 18446744073709551616 := by decide
  obtain ⟨X, hX⟩ : ∃ X, val 18446744073709551616 l = X := ⟨_, rfl⟩
  obtain ⟨n, hn⟩ : ∃ n, l.length = n := ⟨_, rfl⟩
  have hpq := pq64 s hs
  have hP := Nat.two_pow_pos s
  have hQ := Nat.two_pow_pos (64 - s)
  have hlx : X < 18446744073709551616 ^ n := by rw [← hX, ← hn]; exact val_lt _ hB l hl
  have hle : 2 ^ s ≤ 18446744073709551616 := by rw [← hpq]; exact Nat.le_mul_of_pos_right _ hQ
  have hsz : X * 2 ^ s < 18446744073709551616 ^ (n + 1) := by
    rw [Nat.pow_succ]
    exact Nat.lt_of_lt_of_le (Nat.mul_lt_mul_of_pos_right hlx hP) (Nat.mul_le_mul_left _ hle)
  rw [hn, hX, ← rowf_zero]
  have hrec := mrun_end (spF raF l s) (spF raG l s) (n + 1) (fun _ => 0) (wd 18446744073709551616 (X * 2 ^ s)) (mulc 18446744073709551616 X (2 ^ s)) (mulc_zero _ _ _) (fun i _ => by
    have e1 : l[i]?.getD 0 = wd 18446744073709551616 X i := by have := wd_getD _ hB l hl i; rw [hX] at this; rw [← this]; simp
    obtain ⟨h3, h4, h5⟩ := shl_step 18446744073709551616 (2 ^ s) (2 ^ (64 - s)) X i hP hQ hpq
    rw [spF_eq, spF_eq]
    unfold raF raG
    rw [e1, h3, h4]
    refine ⟨?_, rfl⟩
    refine nat_join s _ _ ?_ h5
    rw [← hpq, Nat.mul_comm (2 ^ s), Nat.mul_mod_mul_right, Nat.mul_mod_left])
  rw [hrec]
  exact rowf_wd _ (by decide) _ (n + 1) hsz

/-! ### Rows cut, rows moved -/
theorem dig_drop (B : Nat) (hB : 2 ≤ B) : ∀ k X, (dig B X).drop k = dig B (X / B ^ k) := by
  intro k
  induction k with
  | zero => intro X; simp
  | succ k ih =>
    intro X
    rcases Nat.eq_zero_or_pos X with h | h
    · subst h; rw [Nat.zero_div, dig_zero]; simp
    · rw [dig_pos B X hB h, List.drop_succ_cons, ih, Nat.div_div_eq_div_mul, Nat.pow_succ, Nat.mul_comm B]
theorem dig_up (B : Nat) (hB : 2 ≤ B) (X : Nat) (h : 0 < X) : ∀ k, List.replicate k 0 ++ dig B X = dig B (X * B ^ k) := by
  intro k
  induction k with
  | zero => simp
  | succ k ih =>
    have hp : 0 < X * B ^ (k + 1) := Nat.mul_pos h (Nat.pow_pos (by omega))
    rw [dig_pos B _ hB hp, List.replicate_succ, List.cons_append, ih, Nat.pow_succ, ← Nat.mul_assoc, Nat.mul_mod_left, Nat.mul_div_cancel _ (by omega)]
theorem blen_top (X n : Nat) (hn : (dig 18446744073709551616 X).length = n + 1) (x : Nat) (hx : X / 18446744073709551616 ^ n = x) : 0 < x ∧ x < 18446744073709551616 ∧ blen X = 64 * n + Lib.bitLen x := by
  have hlt := dig_lt 18446744073709551616 (by decide) X
  rw [hn, Nat.pow_succ] at hlt
  have hX : 0 < X := by
    rcases Nat.eq_zero_or_pos X with h | h
    · subst h; rw [dig_zero] at hn; cases hn
    · exact h
  have hge := dig_ge 18446744073709551616 (by decide) X hX
  rw [hn, Nat.add_sub_cancel] at hge
  have hp : 0 < 18446744073709551616 ^ n := Nat.pow_pos (by decide)
  have h1 : 0 < x := by rw [← hx]; exact Nat.div_pos hge hp
  have h2 : x < 18446744073709551616 := by rw [← hx, Nat.div_lt_iff_lt_mul hp, Nat.mul_comm]; exact hlt
  refine ⟨h1, h2, ?_⟩
  obtain ⟨b1, b2, b3⟩ := bl_bounds x h1 h2
  have e : (18446744073709551616 : Nat) ^ n = 2 ^ (64 * n) := by rw [Nat.pow_mul]
  rw [e] at hx hp
  have hl : Nat.log2 X = 64 * n + (Lib.bitLen x - 1) := by
    have l1 : X < 2 ^ (64 * n + (Lib.bitLen x - 1) + 1) := by
      have : X < (x + 1) * 2 ^ (64 * n) := by
        rw [← hx, ← Nat.div_lt_iff_lt_mul hp]
        exact Nat.lt_succ_self _
      refine Nat.lt_of_lt_of_le this ?_
      rw [show 64 * n + (Lib.bitLen x - 1) + 1 = Lib.bitLen x + 64 * n by omega, Nat.pow_add]
      exact Nat.mul_le_mul_right _ b3
    have l2 : 2 ^ (64 * n + (Lib.bitLen x - 1)) ≤ X := by
      have h3 : x * 2 ^ (64 * n) ≤ X := by rw [← hx]; exact Nat.div_mul_le_self _ _
      refine Nat.le_trans ?_ h3
      rw [Nat.add_comm, Nat.pow_add]
      exact Nat.mul_le_mul_right _ b2
    have a1 := (Nat.log2_lt (by omega)).2 l1
    have a2 := (Nat.le_log2 (by omega)).2 l2
    omega
  unfold blen
  rw [if_neg (by omega), hl]
  omega
end Go.Proofs.Ytdoohlehglakfaa
