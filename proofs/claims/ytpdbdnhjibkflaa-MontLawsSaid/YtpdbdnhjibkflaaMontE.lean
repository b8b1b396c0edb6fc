/-
  Powers in Montgomery's form: mont.Pow.
-/
import Derived.Test.YtpdbdnhjibkflaaMontB
import Derived.Test.YtpdbdnhjibkflaaWordL
import Derived.Lib.ItoaNum
namespace Go.Proofs.Ytpdbdnhjibkflaa
open Go.RowKit
set_option linter.unusedVariables false

/-- A power, in the form: that of v behind the exponent's lower k bits. -/
def pw (m v n : Nat) : Nat := fm m (v ^ n)
theorem pw_lt (m v n : Nat) (h : 0 < m) : pw m v n < m := fm_lt _ _ h
theorem pw_zero (m v : Nat) : pw m v 0 = fm m 1 := by unfold pw; rw [Nat.pow_zero]
theorem pw_one (m a : Nat) (h : m % 2 = 1) (ha : a < m) : pw m (rd m a) 1 = a := by unfold pw; rw [Nat.pow_one, fm_of_rd m a h ha]
theorem pw_mul (m v i k : Nat) (h : m % 2 = 1) : rd m (pw m v i * pw m v k) = pw m v (i + k) := by unfold pw; rw [rd_fm m _ _ h, ← Nat.pow_add]
theorem low_succ (n k : Nat) : n % 2 ^ (k + 1) = n % 2 ^ k + 2 ^ k * (n / 2 ^ k % 2) := by rw [Nat.pow_succ, Nat.mod_mul]
theorem two_succ (k : Nat) : 2 ^ k + 2 ^ k = 2 ^ (k + 1) := by rw [Nat.pow_succ]; omega
theorem low_all (n : Nat) (hn : n < 18446744073709551616) : n % 2 ^ Lib.bitLen n = n := by
  by_cases h0 : n = 0
  · subst h0; exact Nat.zero_mod _
  · exact Nat.mod_eq_of_lt (Lib.bitLenAux_bounds 64 n hn h0).2.2
theorem len_le (n : Nat) (hn : n < 18446744073709551616) : Lib.bitLen n ≤ 64 := Lib.bitLen_le n 64 (by omega) hn

theorem mlen_any (x : Nat) (hx : x < 18446744073709551616) (w : World) :
    Calls Try.prog 24 #[.int .u64 (x : Int)] w fun e w' => e = .returned (.int .i64 ((Lib.bitLen x : Nat) : Int)) ∧ w = w' :=
  (len64_int x w (by omega) (by omega)).mono fun _ _ ⟨he, hw⟩ => ⟨he, hw⟩

theorem bit_of (e k t : Nat) (he : e < 18446744073709551616) (ht : e / 2 ^ k % 2 = t) : bits .and .u64 ((e : Int) / 2 ^ k) 1 = (t : Int) := by
  have e1 : (e : Int) / 2 ^ k = ((e / 2 ^ k : Nat) : Int) := by rw [Int.natCast_ediv, Int.natCast_pow]; rfl
  have hlt : e / 2 ^ k < 18446744073709551616 := Nat.lt_of_le_of_lt (Nat.div_le_self _ _) he
  have h := bits_and_u64_nat (e / 2 ^ k) 1 hlt (by omega)
  have e2 : e / 2 ^ k &&& 1 = e / 2 ^ k % 2 := Nat.and_two_pow_sub_one_eq_mod (e / 2 ^ k) 1
  rw [e2, ht] at h
  rw [e1]
  exact h
/-- One round: what becomes of the power and of the square. -/
theorem pow_round {m n o s : Nat} (p : Pm m n o s) (v e k : Nat) : ∃ c q d r : Nat, pw m v (e % 2 ^ k) = c ∧ pw m v (2 ^ k) = q ∧ c < m ∧ q < m ∧ rd m (c * q) = d ∧ rd m (q * q) = r ∧ pw m v (2 ^ (k + 1)) = r ∧
    (e / 2 ^ k % 2 = 0 → pw m v (e % 2 ^ (k + 1)) = c) ∧ (e / 2 ^ k % 2 = 1 → pw m v (e % 2 ^ (k + 1)) = d) := by
  have hm := p.lo
  refine ⟨_, _, _, _, rfl, rfl, pw_lt _ _ _ (by omega), pw_lt _ _ _ (by omega), rfl, rfl, ?_, ?_, ?_⟩
  · rw [pw_mul m v _ _ p.odd, two_succ]
  · intro h; rw [low_succ, h, Nat.mul_zero, Nat.add_zero]
  · intro h; rw [low_succ, h, Nat.mul_one, pw_mul m v _ _ p.odd]

set_option maxRecDepth 100000 in
set_option maxHeartbeats 1000000 in
theorem mpow_any {m n o s : Nat} (p : Pm m n o s) (a e : Nat) (ha : a < m) (he : e < 18446744073709551616) (w : World) :
    Calls Try.prog 20 #[frm m n o s, .int .u32 (a : Int), .int .u64 (e : Int)] w fun r w' => r = .returned (.int .u32 ((pw m (rd m a) e : Nat) : Int)) ∧ Gr w w' := by
  have L := Lib.hid (fun w => mlen_any e he w)
  have hl := len_le e he
  obtain ⟨l, hl2⟩ : ∃ l, Lib.bitLen e = l := ⟨_, rfl⟩
  have AL := low_all e he
  rw [hl2] at L hl AL
  have AL' := Lib.hid AL
  have P := Lib.hid p
  have HE := Lib.hid he
  have h1 := Lib.hid (pw_one m a p.odd ha)
  have h0 := Lib.hid (pw_zero m (rd m a))
  have F0 := Lib.hid (four_box w (.int .u32 (m : Int)) (.int .u32 (n : Int)) (.int .u32 (o : Int)) (.int .u32 (s : Int)) 25)
  clear ha he p AL hl2
  unfold frm
  go_enter Try.func20, Try.ntmps20
  go_wp2_with (go_at_call 24; (with_reducible refine (L.out _).mono ?_); rintro e w1 ⟨rfl, rfl⟩)
  go_loopw [7, 8, 15] (fun c q i wr => ∃ k : Nat, k ≤ l ∧ i = .int .i64 (k : Int) ∧ c = .int .u32 ((pw m (rd m a) (e % 2 ^ k) : Nat) : Int) ∧ q = .int .u32 ((pw m (rd m a) (2 ^ k) : Nat) : Int) ∧
      Four w.heap.size (.int .u32 (m : Int)) (.int .u32 (n : Int)) (.int .u32 (o : Int)) (.int .u32 (s : Int)) wr ∧ Gr w wr) (fun _ _ i _ => l - (intOf i).toNat)
  case atStart => exact ⟨0, by omega, rfl, by rw [Nat.pow_zero, Nat.mod_one, h0.out, P.out.one], by rw [Nat.pow_zero, h1.out], F0.out, (Gr.refl w).alloc _ _⟩
  case round =>
    obtain ⟨k, hk, rfl, rfl, rfl, hF, hG⟩ := hrel
    have HF := Lib.hid hF
    have HG := Lib.hid hG
    obtain ⟨k0, k1, k2, k3, kb⟩ := hF
    clear hG
    by_cases hlt : k < l
    · obtain ⟨c, q, d, r, hc, hq, hcm, hqm, hd, hr, hq2, hb0, hb1⟩ := pow_round P.out (rd m a) e k
      have M1 := Lib.hid (fun w => mmul_any P.out c q (by have := P.out.hi; omega) (by have := P.out.hi; omega) (prod_lt m c q (by have := P.out.hi; omega) hqm) w)
      have M2 := Lib.hid (fun w => mmul_any P.out q q (by have := P.out.hi; omega) (by have := P.out.hi; omega) (prod_lt m q q (by have := P.out.hi; omega) hqm) w)
      rw [hd] at M1
      rw [hr] at M2
      unfold frm at M1 M2
      rw [hc, hq]
      have HQ2 := Lib.hid hq2
      have HB0 := Lib.hid hb0
      have HB1 := Lib.hid hb1
      clear hc hq hcm hqm hd hr hq2 hb0 hb1
      rcases Nat.mod_two_eq_zero_or_one (e / 2 ^ k) with ht | ht
      · have hbit := bit_of e k 0 HE.out ht
        have hn := Lib.hid (HB0.out ht)
        rw [show ((0 : Nat) : Int) = 0 from rfl] at hbit
        clear ht
        go_wp2_with (first
          | (go_at_call 19; (with_reducible refine (M2.out _).mono ?_); rintro e w3 ⟨rfl, hg⟩; have H3 := Lib.hid (HF.out.kept hg); have HG3 := Lib.hid (HG.out.trans hg); clear hg))
        go_roundw
        case rel => exact ⟨k + 1, by omega, by go_num, by rw [hn.out], by rw [HQ2.out], H3.out, HG3.out⟩
        case measure => simp [intOf]; omega
      · have hbit := bit_of e k 1 HE.out ht
        have hn := Lib.hid (HB1.out ht)
        rw [show ((1 : Nat) : Int) = 1 from rfl] at hbit
        clear ht
        go_wp2_with (first
          | (go_at_call 19; (with_reducible refine (M1.out _).mono ?_); rintro e w2 ⟨rfl, hg⟩; have H2 := Lib.hid (HF.out.kept hg); obtain ⟨j0, j1, j2, j3, jb⟩ := HF.out.kept hg; have HG2 := Lib.hid (HG.out.trans hg); clear hg)
          | (go_at_call 19; (with_reducible refine (M2.out _).mono ?_); rintro e w3 ⟨rfl, hg⟩; have H3 := Lib.hid (H2.out.kept hg); have HG3 := Lib.hid (HG2.out.trans hg); clear hg))
        go_roundw
        case rel => exact ⟨k + 1, by omega, by go_num, by rw [hn.out], by rw [HQ2.out], H3.out, HG3.out⟩
        case measure => simp [intOf]; omega
    · have hkl : k = l := by omega
      subst hkl
      rw [AL'.out]
      go_wp2
      go_ret
      exact ⟨rfl, HG.out⟩
end Go.Proofs.Ytpdbdnhjibkflaa
