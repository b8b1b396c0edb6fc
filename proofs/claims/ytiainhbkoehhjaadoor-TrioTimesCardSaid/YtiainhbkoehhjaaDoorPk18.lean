/-
  Powers in Montgomery's form: mont.Pow. · Package trio: roots: the powers of the roots of 1, one order behind the other.
-/
import Derived.Test.YtiainhbkoehhjaaDoorPk9
import Derived.Test.YtiainhbkoehhjaaDoorWordL
import Derived.Lib.ItoaNum
import Derived.Test.YtiainhbkoehhjaaDoorPk17
namespace Go.Proofs.YtiainhbkoehhjaaDoor
open Go.RowKit
set_option linter.unusedVariables false

/-- A power, in the form: that of v behind the exponent's lower k bits. -/
def pw (m v n : Nat) : Nat := fm m (v ^ n)
theorem pw_lt (m v n : Nat) (h : 0 < m) : pw m v n < m := fm_lt _ _ h
theorem pw_zero (m v : Nat) : pw m v 0 = fm m 1 := by unfold pw; rw [Nat.pow_zero]
theorem pw_one (m a : Nat) (h : m % 2 = 1) (ha : a < m) : pw m (rd m a) 1 = a := by unfold pw; rw [Nat.pow_one, fm_of_rd m a h ha]
theorem pw_mul (m v i k : Nat) (h : m % 2 = 1) : rd m (pw m v i * pw m v k) = pw m v (i + k) := by unfold pw; rw [rd_fm m _ _ h, ← Nat.pow_add]
theorem low_succ (n k : Nat) : n % 2 ^ (k + 1) = n % 2 ^ k + 2 ^ k * (n / 2 ^ k % 2) := by rw [Nat.pow_succ, Nat.mod_mul]
theorem two_succ (k : Nat) : 2 ^ k + 2 ^ k = 2 ^ (k + 1) := by rw [Nat.pow_succ]; omega
theorem low_all (n : Nat) (hn : n < 18446744073709551616) : n % 2 ^ Lib.bitLen n = n := by
  by_cases h0 : n = 0
  · subst h0; exact Nat.zero_mod _
  · exact Nat.mod_eq_of_lt (Lib.bitLenAux_bounds 64 n hn h0).2.2
theorem len_le (n : Nat) (hn : n < 18446744073709551616) : Lib.bitLen n ≤ 64 := Lib.bitLen_le n 64 (by omega) hn

theorem mlen_any (x : Nat) (hx : x < 18446744073709551616) (w : World) :
    Calls Tryd.prog 70 #[.int .u64 (x : Int)] w fun e w' => e = .returned (.int .i64 ((Lib.bitLen x : Nat) : Int)) ∧ w = w' :=
  (len64_int x w (by omega) (by omega)).mono fun _ _ ⟨he, hw⟩ => ⟨he, hw⟩

theorem bit_of (e k t : Nat) (he : e < 18446744073709551616) (ht : e / 2 ^ k % 2 = t) : bits .and .u64 ((e : Int) / 2 ^ k) 1 = (t : Int) := by
  have e1 : (e : Int) / 2 ^ k = ((e / 2 ^ k : Nat) : Int) := by rw [Int.natCast_ediv, Int.natCast_pow]; rfl
  have hlt : e / 2 ^ k < 18446744073709551616 := Nat.lt_of_le_of_lt (Nat.div_le_self _ _) he
  have h := bits_and_u64_nat (e / 2 ^ k) 1 hlt (by omega)
  have e2 : e / 2 ^ k &&& 1 = e / 2 ^ k % 2 := Nat.and_two_pow_sub_one_eq_mod (e / 2 ^ k) 1
  rw [e2, ht] at h
  rw [e1]
  exact h
/-- One round: what becomes of the power and of the square. -/
theorem pow_round {m n o s : Nat} (p : Pm m n o s) (v e k : Nat) : ∃ c q d r : Nat, pw m v (e % 2 ^ k) = c ∧ pw m v (2 ^ k) = q ∧ c < m ∧ q < m ∧ rd m (c * q) = d ∧ rd m (q * q) = r ∧ pw m v (2 ^ (k + 1)) = r ∧
    (e / 2 ^ k % 2 = 0 → pw m v (e % 2 ^ (k + 1)) = c) ∧ (e / 2 ^ k % 2 = 1 → pw m v (e % 2 ^ (k + 1)) = d) := by
  have hm := p.lo
  refine ⟨_, _, _, _, rfl, rfl, pw_lt _ _ _ (by omega), pw_lt _ _ _ (by omega), rfl, rfl, ?_, ?_, ?_⟩
  · rw [pw_mul m v _ _ p.odd, two_succ]
  · intro h; rw [low_succ, h, Nat.mul_zero, Nat.add_zero]
  · intro h; rw [low_succ, h, Nat.mul_one, pw_mul m v _ _ p.odd]

set_option maxRecDepth 100000 in
set_option maxHeartbeats 1000000 in
theorem mpow_any {m n o s : Nat} (p : Pm m n o s) (a e : Nat) (ha : a < m) (he : e < 18446744073709551616) (w : World) :
    Calls Tryd.prog 66 #[frm m n o s, .int .u32 (a : Int), .int .u64 (e : Int)] w fun r w' => r = .returned (.int .u32 ((pw m (rd m a) e : Nat) : Int)) ∧ Gr w w' := by
  have L := Lib.hid (fun w => mlen_any e he w)
  have hl := len_le e he
  obtain ⟨l, hl2⟩ : ∃ l, Lib.bitLen e = l := ⟨_, rfl⟩
  have AL := low_all e he
  rw [hl2] at L hl AL
  have AL' := Lib.hid AL
  have P := Lib.hid p
  have HE := Lib.hid he
  have h1 := Lib.hid (pw_one m a p.odd ha)
  have h0 := Lib.hid (pw_zero m (rd m a))
  have F0 := Lib.hid (four_box w (.int .u32 (m : Int)) (.int .u32 (n : Int)) (.int .u32 (o : Int)) (.int .u32 (s : Int)) 77)
  clear ha he p AL hl2
  unfold frm
  go_enter Tryd.func66, Tryd.ntmps66
  go_wp2_with (go_at_call 70; (with_reducible refine (L.out _).mono ?_); rintro e w1 ⟨rfl, rfl⟩)
  go_loopw [7, 8, 15] (fun c q i wr => ∃ k : Nat, k ≤ l ∧ i = .int .i64 (k : Int) ∧ c = .int .u32 ((pw m (rd m a) (e % 2 ^ k) : Nat) : Int) ∧ q = .int .u32 ((pw m (rd m a) (2 ^ k) : Nat) : Int) ∧
      Four w.heap.size (.int .u32 (m : Int)) (.int .u32 (n : Int)) (.int .u32 (o : Int)) (.int .u32 (s : Int)) wr ∧ Gr w wr) (fun _ _ i _ => l - (intOf i).toNat)
  case atStart => exact ⟨0, by omega, rfl, by rw [Nat.pow_zero, Nat.mod_one, h0.out, P.out.one], by rw [Nat.pow_zero, h1.out], F0.out, (Gr.refl w).alloc _ _⟩
  case round =>
    obtain ⟨k, hk, rfl, rfl, rfl, hF, hG⟩ := hrel
    have HF := Lib.hid hF
    have HG := Lib.hid hG
    obtain ⟨k0, k1, k2, k3, kb⟩ := hF
    clear hG
    by_cases hlt : k < l
    · obtain ⟨c, q, d, r, hc, hq, hcm, hqm, hd, hr, hq2, hb0, hb1⟩ := pow_round P.out (rd m a) e k
      have M1 := Lib.hid (fun w => mmul_any P.out c q (by have := P.out.hi; omega) (by have := P.out.hi; omega) (prod_lt m c q (by have := P.out.hi; omega) hqm) w)
      have M2 := Lib.hid (fun w => mmul_any P.out q q (by have := P.out.hi; omega) (by have := P.out.hi; omega) (prod_lt m q q (by have := P.out.hi; omega) hqm) w)
      rw [hd] at M1
      rw [hr] at M2
      unfold frm at M1 M2
      rw [hc, hq]
      have HQ2 := Lib.hid hq2
      have HB0 := Lib.hid hb0
      have HB1 := Lib.hid hb1
      clear hc hq hcm hqm hd hr hq2 hb0 hb1
      rcases Nat.mod_two_eq_zero_or_one (e / 2 ^ k) with ht | ht
      · have hbit := bit_of e k 0 HE.out ht
        have hn := Lib.hid (HB0.out ht)
        rw [show ((0 : Nat) : Int) = 0 from rfl] at hbit
        clear ht
        go_wp2_with (first
          | (go_at_call 59; (with_reducible refine (M2.out _).mono ?_); rintro e w3 ⟨rfl, hg⟩; have H3 := Lib.hid (HF.out.kept hg); have HG3 := Lib.hid (HG.out.trans hg); clear hg))
        go_roundw
        case rel => exact ⟨k + 1, by omega, by go_num, by rw [hn.out], by rw [HQ2.out], H3.out, HG3.out⟩
        case measure => simp [intOf]; omega
      · have hbit := bit_of e k 1 HE.out ht
        have hn := Lib.hid (HB1.out ht)
        rw [show ((1 : Nat) : Int) = 1 from rfl] at hbit
        clear ht
        go_wp2_with (first
          | (go_at_call 59; (with_reducible refine (M1.out _).mono ?_); rintro e w2 ⟨rfl, hg⟩; have H2 := Lib.hid (HF.out.kept hg); obtain ⟨j0, j1, j2, j3, jb⟩ := HF.out.kept hg; have HG2 := Lib.hid (HG.out.trans hg); clear hg)
          | (go_at_call 59; (with_reducible refine (M2.out _).mono ?_); rintro e w3 ⟨rfl, hg⟩; have H3 := Lib.hid (H2.out.kept hg); have HG3 := Lib.hid (HG2.out.trans hg); clear hg))
        go_roundw
        case rel => exact ⟨k + 1, by omega, by go_num, by rw [hn.out], by rw [HQ2.out], H3.out, HG3.out⟩
        case measure => simp [intOf]; omega
    · have hkl : k = l := by omega
      subst hkl
      rw [AL'.out]
      go_wp2
      go_ret
      exact ⟨rfl, HG.out⟩
end Go.Proofs.YtiainhbkoehhjaaDoor
namespace Go.Proofs.YtiainhbkoehhjaaDoor
open Go.RowKit
set_option linter.unusedVariables false
set_option linter.unusedSimpArgs false

/-- What lies in the place p. -/
def rt (m p : Nat) : Nat := if p = 0 then 0 else fm m (vr m (Nat.log2 p + 1) ^ (p - 2 ^ Nat.log2 p))
theorem rt_at (m n i : Nat) (hi : i < 2 ^ n) : rt m (2 ^ n + i) = fm m (vr m (n + 1) ^ i) := by
  have hp : 0 < 2 ^ n := Nat.pow_pos (by decide)
  have hl : Nat.log2 (2 ^ n + i) = n := (Nat.log2_eq_iff (by omega)).2 ⟨by omega, by rw [Nat.pow_succ]; omega⟩
  unfold rt
  rw [if_neg (by omega), hl, Nat.add_sub_cancel_left]
theorem rt_lt (m p : Nat) (h : 0 < m) : rt m p < m := by
  unfold rt
  split
  · exact h
  · exact fm_lt _ _ h
/-- Of the first L places. -/
def rtk (m L p : Nat) : Nat := if p < L then rt m p else 0
theorem rtk_one (m p : Nat) : rtk m 1 p = 0 := by
  unfold rtk
  split
  · rename_i h
    have : p = 0 := by omega
    subst this
    rfl
  · rfl
theorem rtk_at (m L : Nat) : rtk m (L + 1) L = rt m L := if_pos (by omega)
theorem rtk_other (m L p : Nat) (h : p ≠ L) : rtk m (L + 1) p = rtk m L p := by
  unfold rtk
  by_cases h2 : p < L
  · rw [if_pos h2, if_pos (by omega)]
  · rw [if_neg h2, if_neg (by omega)]
theorem pw_is_vr (m s : Nat) : pw m 3 ((m - 1) / 2 ^ s) = fm m (vr m s) := rfl
theorem two_lt {n k : Nat} (h : n < k) : 2 ^ n + 2 ^ n ≤ 2 ^ k := by
  have := Nat.pow_le_pow_right (n := 2) (by decide) (show n + 1 ≤ k from h)
  rw [Nat.pow_succ] at this
  omega

set_option maxRecDepth 100000 in
set_option maxHeartbeats 4000000 in
theorem roots_any {m n o s : Nat} (pm : Pm m n o s) (W : World) (k N : Nat) (hN : N = 2 ^ k) (hk : k ≤ 20) (hm3 : 3 < m) :
    Calls Tryd.prog 71 #[frm m n o s, .int .i64 (k : Int)] W (MkEnd W N (rt m)) := by
  obtain ⟨i0, hi, hz0, hz1, hz2⟩ := info_parts Tryd.infoU32
  have hp := pow20 k hk
  rw [← hN] at hp
  have hNb : (N : Int) ≤ 1048576 := by omega
  have hki : (k : Int) ≤ 20 := by omega
  have hk0 : (0 : Int) ≤ (k : Int) := by omega
  have s1 : (2 : Int) ^ k = (N : Int) := by rw [hN, Int.natCast_pow]; rfl
  have s2 : IntKind.i64.wrap (N : Int) = (N : Int) := IntWalk.i64_in _ (by omega)
  have hmk := fun W => run_mk (P := Tryd.prog) .u32 34 25 i0 Tryd.underlying34 hi hz0 hz1 (by omega) N (by omega) W
  have HP := Lib.hid pm
  have HN := Lib.hid hN
  have HK := Lib.hid hk
  have F0 := Lib.hid (four_box W (.int .u32 (m : Int)) (.int .u32 (n : Int)) (.int .u32 (o : Int)) (.int .u32 (s : Int)) 77)
  have MI := Lib.hid (fun w => in_any pm 3 (by decide) w)
  have ht := fm_lt m 3 (by have := pm.lo; omega)
  obtain ⟨t, et⟩ : ∃ t, fm m 3 = t := ⟨_, rfl⟩
  rw [et] at MI ht
  rw [show ((3 : Nat) : Int) = 3 from rfl] at MI
  have key : rd m t = 3 := by rw [← et, rd_of_fm m 3 pm.odd, Nat.mod_eq_of_lt hm3]
  have ht2 : Hid (∀ (e : Nat), e < 18446744073709551616 → ∀ (w : World), Calls Tryd.prog 66 #[frm m n o s, .int .u32 (t : Int), .int .u64 (e : Int)] w fun r w' => r = .returned (.int .u32 ((pw m 3 e : Nat) : Int)) ∧ Gr w w') := by
    intro e he w
    have h := mpow_any pm t e ht he w
    rw [key] at h
    exact h
  clear hp pm hN hk et ht hm3 key
  unfold frm at MI ht2 ⊢
  go_enter Tryd.func71, Tryd.ntmps71
  obtain ⟨W1, hW1⟩ : ∃ W1, (W.alloc (.cells #[.int .u32 (m : Int), .int .u32 (n : Int), .int .u32 (o : Int), .int .u32 (s : Int)] 77)).alloc (.cells (vs .u32 (List.replicate N 0)).toArray 25) = W1 := ⟨_, rfl⟩
  have hBl1 : Hid (Bl W W1) := by rw [← hW1]; exact ((Bl.refl W).alloc _).alloc _
  have hB1 : Hid (Bk .u32 25 W1 (W.heap.size + 1) (ml N (rtk m 1))) := by
    show Bk _ _ _ _ _
    rw [ml_congr (fun p _ => rtk_one m p), ml_const, ← hW1, ← World.size_alloc W (.cells #[.int .u32 (m : Int), .int .u32 (n : Int), .int .u32 (o : Int), .int .u32 (s : Int)] 77)]
    exact Bk.made _ _ _ _
  have F1 : Hid (Four W.heap.size (.int .u32 (m : Int)) (.int .u32 (n : Int)) (.int .u32 (o : Int)) (.int .u32 (s : Int)) W1) := by
    rw [← hW1]; exact F0.out.kept ((Gr.refl _).alloc _ _)
  obtain ⟨k0, k1, k2, k3, kb⟩ := F1.out
  go_wp2_with (go_at_call 67; (with_reducible refine (MI.out _).mono ?_); rintro e w2 ⟨rfl, hg⟩; have HF2 := Lib.hid (F1.out.kept hg); have HB2 := Lib.hid (hB1.out.bl hg.1); have HL2 := Lib.hid (hBl1.out.trans hg.1); clear hg)
  clear hmk k0 k1 k2 k3 kb F0 F1 hB1 hBl1 hW1 MI
  go_loopw [18] (fun sv wr => ∃ u : Nat, u ≤ k ∧ sv = .int .i64 (u : Int) ∧ Hid (Bk .u32 25 wr (W.heap.size + 1) (ml N (rtk m (2 ^ u)))) ∧ Hid (Four W.heap.size (.int .u32 (m : Int)) (.int .u32 (n : Int)) (.int .u32 (o : Int)) (.int .u32 (s : Int)) wr) ∧ Hid (Bl W wr)) (fun sv _ => k - (intOf sv).toNat)
  case atStart => exact ⟨0, Nat.zero_le _, rfl, by rw [Nat.pow_zero]; exact HB2, HF2, HL2⟩
  case round =>
    clear HB2 HF2 HL2
    obtain ⟨u, huk, rfl, hbk, hF, hb⟩ := hrel
    by_cases hlt : u < k
    · obtain ⟨H, hH⟩ : ∃ H, 2 ^ u = H := ⟨_, rfl⟩
      have hHN : H + H ≤ N := by rw [← hH, HN.out]; exact two_lt hlt
      have hH0 : 0 < H := by rw [← hH]; exact Nat.pow_pos (by decide)
      obtain ⟨u1, hu1⟩ : ∃ u1, u + 1 = u1 := ⟨_, rfl⟩
      obtain ⟨E, hE⟩ : ∃ E, (m - 1) / 2 ^ u1 = E := ⟨_, rfl⟩
      have hmlo := HP.out.lo
      have hmhi := HP.out.hi
      have hEl : E < 18446744073709551616 := by rw [← hE]; exact Nat.lt_of_le_of_lt (Nat.div_le_self _ _) (by omega)
      have PW := Lib.hid (fun w => ht2.out E hEl w)
      have hv : pw m 3 E = fm m (vr m u1) := by rw [← hE]; rfl
      obtain ⟨V, hV⟩ : ∃ V, vr m u1 = V := ⟨_, rfl⟩
      rw [hv, hV] at PW
      obtain ⟨m1, hm1⟩ : ∃ x, m - 1 = x := ⟨_, rfl⟩
      have a1 : (m : Int) - 1 = (m1 : Int) := by omega
      have a2 : IntKind.u32.wrap (m1 : Int) = (m1 : Int) := IntWalk.u32_in _ (by omega)
      have a3 : IntKind.u64.wrap (m1 : Int) = (m1 : Int) := IntWalk.u64_in _ (by omega)
      have a4 : (u : Int) + 1 = (u1 : Int) := by omega
      have a5 : IntKind.i64.wrap (u1 : Int) = (u1 : Int) := IntWalk.i64_in _ (by omega)
      have a6 : (m1 : Int) / 2 ^ u1 = (E : Int) := by rw [← hE, hm1, Int.natCast_ediv, Int.natCast_pow]; rfl
      have a7 : (2 : Int) ^ u = (H : Int) := by rw [← hH, Int.natCast_pow]; rfl
      have a8 : IntKind.i64.wrap (H : Int) = (H : Int) := IntWalk.i64_in _ (by omega)
      have a9 : (0 : Int) ≤ (u : Int) := by omega
      have a10 : (u : Int) < 20 := by omega
      have a11 : (0 : Int) ≤ (u1 : Int) := by omega
      have hHb : (H : Int) ≤ 1048576 := by omega
      have HH := Lib.hid hH
      have HU := Lib.hid hu1
      have HVV := Lib.hid hV
      have HHN := Lib.hid hHN
      have hQ := fm_lt m V (by omega)
      obtain ⟨Q, eQ⟩ : ∃ Q, fm m V = Q := ⟨_, rfl⟩
      rw [eQ] at PW hQ
      have HQ := Lib.hid eQ
      have HQm := Lib.hid hQ
      have HONE : Hid (o = fm m (V ^ 0)) := by show o = _; rw [Nat.pow_zero]; exact HP.out.one
      rw [hH] at hbk
      obtain ⟨k0, k1, k2, k3, kb⟩ := hF.out
      have HC : Hid (∀ w', Gr wr w' → w'.cell? ⟨W.heap.size, 0, none⟩ = some (.int .u32 (m : Int)) ∧ w'.cell? ⟨W.heap.size, 1, none⟩ = some (.int .u32 (n : Int)) ∧ w'.cell? ⟨W.heap.size, 2, none⟩ = some (.int .u32 (o : Int)) ∧ w'.cell? ⟨W.heap.size, 3, none⟩ = some (.int .u32 (s : Int)) ∧ Gr wr w') := fun w' hg => ⟨(hg.cell _ _ kb).trans k0, (hg.cell _ _ kb).trans k1, (hg.cell _ _ kb).trans k2, (hg.cell _ _ kb).trans k3, hg⟩
      clear k0 k1 k2 k3 kb hH hHN hH0 hu1 hE hEl hv hV hm1 hQ eQ
      go_wp2
      go_region_held3 (fun w' => w'.cell? ⟨W.heap.size, 0, none⟩ = some (.int .u32 (m : Int)) ∧ w'.cell? ⟨W.heap.size, 1, none⟩ = some (.int .u32 (n : Int)) ∧ w'.cell? ⟨W.heap.size, 2, none⟩ = some (.int .u32 (o : Int)) ∧ w'.cell? ⟨W.heap.size, 3, none⟩ = some (.int .u32 (s : Int)) ∧ Gr wr w')
        (first | assumption | exact HC.out _ ((Gr.refl _).drew) | exact HC.out _ (((Gr.refl _).drew).trans hg))
        (first
         | (go_at_call 66; (with_reducible refine (PW.out _).mono ?_); rintro e w3 ⟨rfl, hg⟩))
      rename_i hH
      obtain ⟨k0, k1, k2, k3, hg3⟩ := hH
      have HF3 := Lib.hid (hF.out.kept hg3)
      have HB3 := Lib.hid (hbk.out.bl hg3.1)
      have HL3 := Lib.hid (hb.out.trans hg3.1)
      clear hg3 hg HC hbk hF hb PW
      go_wp2
      clear k0 k1 k2 k3
      go_loopw [10, 36] (fun pv sv wr => ∃ i : Nat, i ≤ H ∧ sv = .int .i64 (i : Int) ∧ pv = .int .u32 ((fm m (V ^ i) : Nat) : Int) ∧ Hid (Bk .u32 25 wr (W.heap.size + 1) (ml N (rtk m (H + i)))) ∧ Hid (Four W.heap.size (.int .u32 (m : Int)) (.int .u32 (n : Int)) (.int .u32 (o : Int)) (.int .u32 (s : Int)) wr) ∧ Hid (Bl W wr)) (fun _ sv _ => H - (intOf sv).toNat)
      case atStart => exact ⟨0, Nat.zero_le _, rfl, by rw [← HONE.out], HB3, HF3, HL3⟩
      case round =>
        clear HB3 HF3 HL3
        obtain ⟨i, hiH, rfl, rfl, hbk, hF, hb⟩ := hrel
        by_cases hlt2 : i < H
        · obtain ⟨j, hj⟩ : ∃ j, H + i = j := ⟨_, rfl⟩
          have hjN : j < N := by have := HHN.out; omega
          have hrj : rtk m (j + 1) j = fm m (V ^ i) := by rw [rtk_at, ← hj, ← HH.out, rt_at m u i (by rw [HH.out]; exact hlt2), HU.out, HVV.out]
          have hc := fm_lt m (V ^ i) (by omega)
          have hnx : rd m (fm m (V ^ i) * fm m V) = fm m (V ^ (i + 1)) := by rw [rd_fm m _ _ HP.out.odd, ← Nat.pow_succ]
          rw [HQ.out] at hnx
          rw [hj] at hbk
          obtain ⟨c, ec⟩ : ∃ c, fm m (V ^ i) = c := ⟨_, rfl⟩
          rw [ec] at hrj hc hnx
          have MM := Lib.hid (fun w => mmul_any HP.out c Q (by omega) (by have := HQm.out; omega) (prod_lt m c Q (by omega) HQm.out) w)
          obtain ⟨d, ed⟩ : ∃ d, fm m (V ^ (i + 1)) = d := ⟨_, rfl⟩
          rw [hnx, ed] at MM
          have HD := Lib.hid ed
          have q1 := hbk.out.cell j (by rw [ml_length]; exact hjN)
          rw [ml_get] at q1
          have q2 := hbk.out.free j
          have hset := hbk.out.set j c (by rw [ml_length]; exact hjN)
          rw [← hrj, ml_set (g := rtk m (j + 1)) (fun p hp => rtk_other m j p hp), hrj] at hset
          have HBK := Lib.hid hset
          have HF' := Lib.hid (hF.out.og ((Og.refl (W.heap.size + 1) _).setCell j (.int .u32 (c : Int))) (by omega))
          have HBL := Lib.hid (hb.out.setCell (p := ⟨W.heap.size + 1, j, none⟩) (Nat.le_succ _) (.int .u32 (c : Int)))
          have b1 : (H : Int) + (i : Int) = (j : Int) := by omega
          have b2 : IntKind.i64.wrap (j : Int) = (j : Int) := IntWalk.i64_in _ (by omega)
          have b3 : (0 : Int) ≤ (j : Int) ∧ (j : Int) < (N : Int) := by omega
          have HJ : Hid (H + (i + 1) = j + 1) := by show _ = _; omega
          obtain ⟨k0, k1, k2, k3, kb⟩ := HF'.out
          rw [ec]
          unfold frm at MM
          clear hj hjN hrj hc hnx ec ed hset hbk hF hb
          go_wp2_with (go_at_call 59; (with_reducible refine (MM.out _).mono ?_); rintro e w4 ⟨rfl, hg⟩; have HF4 := Lib.hid (HF'.out.kept hg); have HB4 := Lib.hid (HBK.out.bl hg.1); have HL4 := Lib.hid (HBL.out.trans hg.1); clear hg)
          go_roundw
          case rel => exact ⟨i + 1, hlt2, by go_num, by rw [HD.out], by rw [HJ.out]; exact HB4, HF4, HL4⟩
          case measure => simp [intOf] <;> omega
        · have hin' : i = H := by omega
          have HS : Hid (Bk .u32 25 wr (W.heap.size + 1) (ml N (rtk m (2 ^ u1)))) := by
            have e : 2 ^ u1 = H + i := by rw [hin', ← HU.out, Nat.pow_succ, HH.out]; omega
            rw [e]; exact hbk
          clear hin' hbk
          have hu1k : Hid (u1 ≤ k) := by have := HU.out; show _ ≤ _; omega
          have hu1u : Hid (u1 = u + 1) := HU.out.symm
          go_wp2
          go_roundw
          case rel => exact ⟨u1, hu1k.out, by first | rfl | go_num, HS, hF, hb⟩
          case measure => have := hu1u.out; simp [intOf] <;> omega
    · have hin' : u = k := by omega
      have HS : Hid (Bk .u32 25 wr (W.heap.size + 1) (ml N (rt m))) := by
        show Bk _ _ _ _ _
        have e : ml N (rt m) = ml N (rtk m (2 ^ u)) := ml_congr fun p hp => (if_pos (by rw [hin', ← HN.out]; exact hp)).symm
        rw [e]
        exact hbk.out
      clear hin' hbk
      go_wp2
      go_ret
      exact ⟨_, rfl, Nat.le_succ _, HS.out, hb.out⟩
end Go.Proofs.YtiainhbkoehhjaaDoor
