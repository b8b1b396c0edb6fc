/-
  The document's answers of layer 6 over numbers: Gcd, Pow.
-/
import Derived.Test.YtfmkbeffhdphfaaPk31
import Derived.Test.YtfmkbeffhdphfaaPk38
import Derived.Test.YtfmkbeffhdphfaaPk40
namespace Go.Proofs.Ytfmkbeffhdphfaa
open Go.RowKit
set_option linter.unusedVariables false
set_option linter.unusedSimpArgs false

set_option maxRecDepth 100000 in
set_option maxHeartbeats 2000000 in
theorem r6gcd_any (W : World) (va vb : Value) (A B j : Nat) (ha : Nu W va A) (hb : Nu W vb B) (hsa : Sz j A) (hsb : Sz j B) (hj : j + 1 ≤ 200) :
    Calls Try.prog 22 #[va, vb] W (RwEnd .u64 W (dig 18446744073709551616 (Nat.gcd A B))) := by
  have KA := Lib.hid (kDg ha)
  have KB := Lib.hid (fun W' (g : Bl W W') => kDg (hb.bl g))
  have KC := Lib.hid (fun X Y (hx : Sz j X) (hy : Sz j Y) => kCmp X Y (hx.sd (by omega)) (hy.sd (by omega)))
  have KV := Lib.hid (fun X Y (hx : Sz j X) (hy : Sz j Y) (hp : 0 < Y) => kDiv X Y hp (hx.sd (by omega)) (hy.sd (by omega)))
  have KP := Lib.hid (fun X Y (hx : Sz j X) (hy : Sz j Y) => kAdd X Y (hx.sd (by omega)) (hy.sd (by omega)))
  have KW := Lib.hid (fun X (hx : Sz (j + 1) X) => kWords X (hx.sd (by omega)))
  have HLN := Lib.hid (fun X (hx : Sz j X) => (hx.sd (by omega)).len)
  obtain ⟨G, hG⟩ : ∃ G, Nat.gcd A B = G := ⟨_, rfl⟩
  rw [hG]
  have H0 : Hid (Nat.gcd A B = G ∧ Sz j A ∧ Sz j B) := ⟨hG, hsa, hsb⟩
  clear ha hb hsa hsb hj hG
  go_enter Try.func22, Try.ntmps22
  go_wp2_with (first
    | (go_at_call 17; (with_reducible refine KA.out.mono ?_); rintro e w1 ⟨v1, rfl, hr1, hb1⟩; have HR1 := Lib.hid hr1; have HB1 := Lib.hid hb1; clear hr1 hb1)
    | (go_at_call 17; (with_reducible refine (KB.out _ HB1.out).mono ?_); rintro e w2 ⟨v2, rfl, hr2, hb2⟩; have HR2 := Lib.hid hr2; have HR1' := Lib.hid (HR1.out.bl hb2); have HB2 := Lib.hid (HB1.out.trans hb2); clear hr2 hb2))
  go_loopw [5, 6] (fun x y wr => ∃ X Y : Nat, Hid (Rw .i64 wr x (dig 65536 X)) ∧ Hid (Rw .i64 wr y (dig 65536 Y)) ∧ Hid (Nat.gcd X Y = G ∧ Sz j X ∧ Sz j Y) ∧ Hid (Bl W wr)) (fun x y wr => nuOf .i64 65536 wr x + nuOf .i64 65536 wr y)
  case atStart => exact ⟨A, B, HR1', HR2, H0, HB2⟩
  case round =>
    clear HR1' HR2 H0 HB2
    obtain ⟨X, Y, hX, hY, hg, hb⟩ := hrel
    obtain ⟨g1, g2, g3⟩ := hg.out
    have hm1 := nuOf_eq (k := .i64) (B := 65536) (by decide) hX.out
    have hm2 := nuOf_eq (k := .i64) (B := 65536) (by decide) hY.out
    have HM := Lib.hid (And.intro hm1 hm2)
    have lx := HLN.out X g2
    have ly := HLN.out Y g3
    obtain ⟨n, hn⟩ : ∃ n, (dig 65536 X).length = n := ⟨_, rfl⟩
    obtain ⟨m, hm⟩ : ∃ n, (dig 65536 Y).length = n := ⟨_, rfl⟩
    obtain ⟨A1, k1, e1⟩ := rw_shape hX.out hn
    obtain ⟨A2, k2, e2⟩ := rw_shape hY.out hm
    subst e1 e2
    rw [hn] at lx
    rw [hm] at ly
    have hnz : n = 0 ↔ X = 0 := by
      constructor
      · intro h; rw [h] at hn
        rw [← val_dig 65536 (by decide) X, List.length_eq_zero_iff.1 hn]; rfl
      · intro h; rw [h, dig_zero] at hn; exact hn.symm
    have hmz : m = 0 ↔ Y = 0 := by
      constructor
      · intro h; rw [h] at hm
        rw [← val_dig 65536 (by decide) Y, List.length_eq_zero_iff.1 hm]; rfl
      · intro h; rw [h, dig_zero] at hm; exact hm.symm
    have nb : (n : Int) ≤ 800 := by omega
    have mb : (m : Int) ≤ 800 := by omega
    by_cases hz : X = 0 ∨ Y = 0
    · have hs : X + Y = G := by
        rcases hz with h | h
        · rw [h, Nat.gcd_zero_left] at g1; omega
        · rw [h, Nat.gcd_zero_right] at g1; omega
      have KP1 := Lib.hid (KP.out X Y g2 g3 wr _ _ hX.out hY.out)
      rw [hs] at KP1
      have hsG : Sz (j + 1) G := by rw [← hs]; exact g2.add g3
      have KW1 := Lib.hid (KW.out G hsG)
      by_cases hx0 : X = 0
      · have d1 : decide (0 < n) = false := decide_eq_false (by have := hnz.2 hx0; omega)
        clear hz hs hsG hx0 hnz hmz lx ly hn hm hm1 hm2 g1 g2 g3 hg
        go_wp2_with (first
          | (go_at_call 25; (with_reducible refine KP1.out.mono ?_); rintro e w3 ⟨v3, rfl, hr3, hb3⟩; have HR3 := Lib.hid hr3; have HB3 := Lib.hid (hb.out.trans hb3); clear hr3 hb3)
          | (go_at_call 16; (with_reducible refine (KW1.out _ _ HR3.out).mono ?_); rintro e w4 ⟨v4, rfl, hr4, hb4⟩; have HR4 := Lib.hid hr4; have HB4 := Lib.hid (HB3.out.trans hb4); clear hr4 hb4))
        go_ret
        exact RwEnd.mk HR4.out HB4.out
      · have d1 : decide (0 < n) = true := decide_eq_true (by have := mt hnz.1 hx0; omega)
        have d2 : decide (0 < m) = false := decide_eq_false (by have := hmz.2 (hz.resolve_left hx0); omega)
        clear hz hs hsG hx0 hnz hmz lx ly hn hm hm1 hm2 g1 g2 g3 hg
        go_wp2_with (first
          | (go_at_call 25; (with_reducible refine KP1.out.mono ?_); rintro e w3 ⟨v3, rfl, hr3, hb3⟩; have HR3 := Lib.hid hr3; have HB3 := Lib.hid (hb.out.trans hb3); clear hr3 hb3)
          | (go_at_call 16; (with_reducible refine (KW1.out _ _ HR3.out).mono ?_); rintro e w4 ⟨v4, rfl, hr4, hb4⟩; have HR4 := Lib.hid hr4; have HB4 := Lib.hid (HB3.out.trans hb4); clear hr4 hb4))
        go_ret
        exact RwEnd.mk HR4.out HB4.out
    · have hxp : 0 < X := Nat.pos_of_ne_zero fun h => hz (.inl h)
      have hyp : 0 < Y := Nat.pos_of_ne_zero fun h => hz (.inr h)
      have d1 : decide (0 < n) = true := decide_eq_true (by have := mt hnz.1 (by omega); omega)
      have d2 : decide (0 < m) = true := decide_eq_true (by have := mt hmz.1 (by omega); omega)
      have KC1 := Lib.hid (KC.out X Y g2 g3 wr _ _ hX.out hY.out)
      by_cases hlt : X < Y
      · rw [cmpi_lt hlt] at KC1
        have KV1 := Lib.hid (KV.out Y X g3 g2 hxp)
        have HN : Hid (Nat.gcd X (Y % X) = G ∧ Sz j X ∧ Sz j (Y % X)) := ⟨by rw [← g1, Nat.gcd_comm X, ← Nat.gcd_rec], g2, g3.le (Nat.mod_le _ _)⟩
        have HL : Hid (Y % X < Y) := Nat.lt_trans (Nat.mod_lt _ hxp) hlt
        clear hz hnz hmz lx ly hn hm hm1 hm2 g1 g2 g3 hg hxp hyp hlt
        go_wp2_with (first
          | (go_at_call 27; (with_reducible refine KC1.out.mono ?_); rintro e w3 ⟨rfl, hb3⟩; have HX3 := Lib.hid (hX.out.bl hb3); have HY3 := Lib.hid (hY.out.bl hb3); have HB3 := Lib.hid (hb.out.trans hb3); clear hb3)
          | (go_at_call 33; (with_reducible refine (KV1.out _ _ _ HY3.out HX3.out).mono ?_); rintro e w4 ⟨q, r, rfl, hq, hr, hb4⟩; have HR4 := Lib.hid hr; have HX4 := Lib.hid (HX3.out.bl hb4); have HB4 := Lib.hid (HB3.out.trans hb4); clear hq hr hb4))
        go_roundw
        case rel => exact ⟨X, Y % X, HX4, HR4, HN, HB4⟩
        case measure =>
          rw [HM.out.1, HM.out.2, nuOf_eq (by decide) HX4.out, nuOf_eq (by decide) HR4.out]
          exact Nat.add_lt_add_left HL.out _
      · obtain ⟨z, ez⟩ : ∃ z, cmpi X Y = z := ⟨_, rfl⟩
        have hz0 : 0 ≤ z := by
          rw [← ez]; unfold cmpi; rw [if_neg hlt]; split <;> decide
        rw [ez] at KC1
        have z1 : decide ((0 : Int) ≤ z) = true := decide_eq_true hz0
        have KV1 := Lib.hid (KV.out X Y g2 g3 hyp)
        have HN : Hid (Nat.gcd (X % Y) Y = G ∧ Sz j (X % Y) ∧ Sz j Y) := ⟨by rw [← g1, Nat.gcd_comm X Y, Nat.gcd_rec Y X], g2.le (Nat.mod_le _ _), g3⟩
        have HL : Hid (X % Y < X) := Nat.lt_of_lt_of_le (Nat.mod_lt _ hyp) (by omega)
        clear hz hnz hmz lx ly hn hm hm1 hm2 g1 g2 g3 hg hxp hyp hlt ez hz0
        go_wp2_with (first
          | (go_at_call 27; (with_reducible refine KC1.out.mono ?_); rintro e w3 ⟨rfl, hb3⟩; have HX3 := Lib.hid (hX.out.bl hb3); have HY3 := Lib.hid (hY.out.bl hb3); have HB3 := Lib.hid (hb.out.trans hb3); clear hb3)
          | (go_at_call 33; (with_reducible refine (KV1.out _ _ _ HX3.out HY3.out).mono ?_); rintro e w4 ⟨q, r, rfl, hq, hr, hb4⟩; have HR4 := Lib.hid hr; have HY4 := Lib.hid (HY3.out.bl hb4); have HB4 := Lib.hid (HB3.out.trans hb4); clear hq hr hb4))
        go_roundw
        case rel => exact ⟨X % Y, Y, HR4, HY4, HN, HB4⟩
        case measure =>
          rw [HM.out.1, HM.out.2, nuOf_eq (by decide) HR4.out, nuOf_eq (by decide) HY4.out]
          exact Nat.add_lt_add_right HL.out _
set_option maxRecDepth 100000 in
set_option maxHeartbeats 2000000 in
theorem r6pow_any (W : World) (va : Value) (A n : Nat) (ha : Nu W va A) (hsa : Sd A) (hn : n < 9223372036854775808) (hs : blen A * n ≤ 262144) :
    Calls Try.prog 24 #[va, .int .i64 (n : Int)] W (RwErr .u64 W (dig 18446744073709551616 (A ^ n)) 0) := by
  have KA := Lib.hid (kDg ha)
  have KB := Lib.hid (kBits A hsa)
  have d0 : decide ((n : Int) < 0) = false := decide_eq_false (by omega)
  have hsz : ∀ m, m ≤ n → (dig 65536 (A ^ m)).length ≤ 16388 := fun m hm => by have := dlen (A ^ m) 4097 (pow_size hs hm); omega
  have hal := hsa.len
  have KM := Lib.hid (fun m (hm : m ≤ n) W' v u h h' => rmul4_any v u (A ^ m) A (by have := hsz m hm; omega) (by omega) W' h h')
  have KW := Lib.hid (fun W' v h => rwords_any v (dig 65536 (A ^ n)) (all_dig _ (by decide) _) (by have := hsz n (Nat.le_refl _); omega) W' h)
  rw [val_dig _ (by decide)] at KW
  have HSZ := Lib.hid hsz
  have HN := Lib.hid hn
  have HI : Hid (∀ i, i ≤ n → (dig 65536 (A ^ i)).length ≠ 0 → i ≤ 262144) := fun i hi hl => by
    rcases Nat.eq_zero_or_pos (blen A) with h | h
    · have hA : A = 0 := by
        unfold blen at h
        split at h
        · assumption
        · omega
      rcases Nat.eq_zero_or_pos i with hi0 | hi0
      · omega
      · exfalso; apply hl; rw [hA, Nat.zero_pow hi0]; rfl
    · have : 1 * n ≤ blen A * n := Nat.mul_le_mul_right n h
      omega
  have HONE : Hid (dig 65536 (A ^ 0) = [1]) := by show _ = _; rw [Nat.pow_zero]; decide +kernel
  obtain ⟨b, eb⟩ : ∃ b, blen A = b := ⟨_, rfl⟩
  rw [eb] at KB hs
  have hbb : b ≤ 12800 := by rw [← eb]; have := blen_sz (k := 200) hsa; omega
  have hb0 : (b : Int) ≤ 12800 := by omega
  clear ha hsa hsz hal
  by_cases hz : b = 0
  · have d1 : decide ((0 : Int) < (b : Int)) = false := decide_eq_false (by omega)
    have d2 : decide (0 < b) = false := decide_eq_false (by omega)
    clear hs hn eb hz
    go_enter Try.func24, Try.ntmps24
    go_wp2_with (first
      | (go_at_call 17; (with_reducible refine KA.out.mono ?_); rintro e w1 ⟨v1, rfl, hr1, hb1⟩; have HR1 := Lib.hid hr1; have HB1 := Lib.hid hb1; clear hr1 hb1)
      | (go_at_call 20; (with_reducible refine (KB.out _ _ HR1.out).mono ?_); rintro e w2 ⟨rfl, rfl⟩))
    have HR0 : Hid (Rw .i64 (w1.alloc (.cells #[.int .i64 1] 3)) (.slice (some ⟨w1.heap.size, 0, none⟩) 1 1) (dig 65536 (A ^ 0))) := by
      rw [HONE.out]
      exact lit_at rfl
    have HB0 := Lib.hid (HB1.out.alloc (.cells #[.int .i64 1] 3))
    have HX1 := Lib.hid (HR1.out.bl ((Bl.refl w1).alloc (.cells #[.int .i64 1] 3)))
    have HW1 := Lib.hid HX1.out
    obtain ⟨Wx, hWx⟩ : ∃ Wx, w1.alloc (.cells #[.int .i64 1] 3) = Wx := ⟨_, rfl⟩
    rw [hWx] at HR0 HB0 HX1 ⊢
    clear HW1 HR1 HB1 KA KB
    go_loopw [8, 9] (fun o s wr => ∃ i : Nat, i ≤ n ∧ s = .int .i64 (i : Int) ∧ Hid (Rw .i64 wr o (dig 65536 (A ^ i))) ∧ Hid (Bl Wx wr)) (fun _ s _ => n - (intOf s).toNat)
    case atStart => exact ⟨0, Nat.zero_le _, rfl, HR0, Bl.refl _⟩
    case round =>
      clear HR0
      obtain ⟨i, hi, rfl, hr, hb⟩ := hrel
      have hlen := HSZ.out i hi
      obtain ⟨m, hm⟩ : ∃ n, (dig 65536 (A ^ i)).length = n := ⟨_, rfl⟩
      rw [hm] at hlen
      obtain ⟨A1, k1, e1⟩ := rw_shape hr.out hm
      subst e1
      have mb : (m : Int) ≤ 16388 := by omega
      by_cases hend : i = n ∨ m = 0
      · have hval : A ^ i = A ^ n := by
          rcases hend with h | h
          · rw [h]
          · have h0 : A ^ i = 0 := by
              rw [h] at hm
              rw [← val_dig 65536 (by decide) (A ^ i), List.length_eq_zero_iff.1 hm]; rfl
            obtain ⟨t, rfl⟩ : ∃ t, n = i + t := ⟨n - i, by omega⟩
            rw [h0, Nat.pow_add, h0, Nat.zero_mul]
        have hr' := hr.out
        rw [hval] at hr'
        have HR' := Lib.hid hr'
        by_cases hin : i < n
        · have c1 : decide (i < n) = true := decide_eq_true (by omega)
          have c2 : decide (0 < m) = false := decide_eq_false (by omega)
          clear hr hr' hval hend hin hm hlen hi
          go_wp2_with (go_at_call 16; (with_reducible refine (KW.out _ _ HR'.out).mono ?_); rintro e w4 ⟨v4, rfl, hr4, hb4⟩; have HR4 := Lib.hid hr4; have HB4 := Lib.hid (HB0.out.trans (hb.out.trans hb4)); clear hr4 hb4)
          go_ret2
          exact RwErr.mk HR4.out HB4.out
        · have c1 : decide (i < n) = false := decide_eq_false (by omega)
          clear hr hr' hval hend hin hm hlen hi
          go_wp2_with (go_at_call 16; (with_reducible refine (KW.out _ _ HR'.out).mono ?_); rintro e w4 ⟨v4, rfl, hr4, hb4⟩; have HR4 := Lib.hid hr4; have HB4 := Lib.hid (HB0.out.trans (hb.out.trans hb4)); clear hr4 hb4)
          go_ret2
          exact RwErr.mk HR4.out HB4.out
      · have c1 : decide (i < n) = true := decide_eq_true (by omega)
        have c2 : decide (0 < m) = true := decide_eq_true (by omega)
        have hi1 : Hid (i + 1 ≤ n) := by show i + 1 ≤ n; omega
        have ib : (i : Int) ≤ 262144 := by have := HI.out i hi (by rw [hm]; omega); omega
        have KM1 := Lib.hid (KM.out i hi wr _ _ hr.out (HX1.out.bl hb.out))
        have HPW : Hid (A ^ i * A = A ^ (i + 1)) := (Nat.pow_succ A i).symm
        rw [HPW.out] at KM1
        clear hend hm hlen hi
        go_wp2_with (go_at_call 44; (with_reducible refine KM1.out.mono ?_); rintro e w4 ⟨v4, rfl, hr4, hb4⟩; have HR4 := Lib.hid hr4; have HB4 := Lib.hid (hb.out.trans hb4); clear hr4 hb4)
        go_roundw
        case rel => exact ⟨i + 1, hi1.out, by go_num, HR4, HB4⟩
        case measure => have := hi1.out; simp [intOf] <;> omega
  · obtain ⟨q, hq⟩ : ∃ q, 262144 / b = q := ⟨_, rfl⟩
    have hqn : n ≤ q := by rw [← hq, Nat.le_div_iff_mul_le (by omega), Nat.mul_comm]; exact hs
    have r1 : (262144 : Int) / (b : Int) = (q : Int) := by rw [← hq]; exact (Int.natCast_ediv 262144 b).symm
    have d1 : decide ((0 : Int) < (b : Int)) = true := decide_eq_true (by omega)
    have d2 : decide (0 < b) = true := decide_eq_true (by omega)
    have d3 : decide ((q : Int) < (n : Int)) = false := decide_eq_false (by omega)
    have d4 : decide (q < n) = false := decide_eq_false (by omega)
    have hbz : ¬ (b : Int) = 0 := by omega
    clear hs hn eb hq hqn
    go_enter Try.func24, Try.ntmps24
    go_wp2_with (first
      | (go_at_call 17; (with_reducible refine KA.out.mono ?_); rintro e w1 ⟨v1, rfl, hr1, hb1⟩; have HR1 := Lib.hid hr1; have HB1 := Lib.hid hb1; clear hr1 hb1)
      | (go_at_call 20; (with_reducible refine (KB.out _ _ HR1.out).mono ?_); rintro e w2 ⟨rfl, rfl⟩))
    have HR0 : Hid (Rw .i64 (w1.alloc (.cells #[.int .i64 1] 3)) (.slice (some ⟨w1.heap.size, 0, none⟩) 1 1) (dig 65536 (A ^ 0))) := by
      rw [HONE.out]
      exact lit_at rfl
    have HB0 := Lib.hid (HB1.out.alloc (.cells #[.int .i64 1] 3))
    have HX1 := Lib.hid (HR1.out.bl ((Bl.refl w1).alloc (.cells #[.int .i64 1] 3)))
    have HW1 := Lib.hid HX1.out
    obtain ⟨Wx, hWx⟩ : ∃ Wx, w1.alloc (.cells #[.int .i64 1] 3) = Wx := ⟨_, rfl⟩
    rw [hWx] at HR0 HB0 HX1 ⊢
    clear HW1 HR1 HB1 KA KB r1 d1 d2 d3 d4 hbz
    go_loopw [8, 9] (fun o s wr => ∃ i : Nat, i ≤ n ∧ s = .int .i64 (i : Int) ∧ Hid (Rw .i64 wr o (dig 65536 (A ^ i))) ∧ Hid (Bl Wx wr)) (fun _ s _ => n - (intOf s).toNat)
    case atStart => exact ⟨0, Nat.zero_le _, rfl, HR0, Bl.refl _⟩
    case round =>
      clear HR0
      obtain ⟨i, hi, rfl, hr, hb⟩ := hrel
      have hlen := HSZ.out i hi
      obtain ⟨m, hm⟩ : ∃ n, (dig 65536 (A ^ i)).length = n := ⟨_, rfl⟩
      rw [hm] at hlen
      obtain ⟨A1, k1, e1⟩ := rw_shape hr.out hm
      subst e1
      have mb : (m : Int) ≤ 16388 := by omega
      by_cases hend : i = n ∨ m = 0
      · have hval : A ^ i = A ^ n := by
          rcases hend with h | h
          · rw [h]
          · have h0 : A ^ i = 0 := by
              rw [h] at hm
              rw [← val_dig 65536 (by decide) (A ^ i), List.length_eq_zero_iff.1 hm]; rfl
            obtain ⟨t, rfl⟩ : ∃ t, n = i + t := ⟨n - i, by omega⟩
            rw [h0, Nat.pow_add, h0, Nat.zero_mul]
        have hr' := hr.out
        rw [hval] at hr'
        have HR' := Lib.hid hr'
        by_cases hin : i < n
        · have c1 : decide (i < n) = true := decide_eq_true (by omega)
          have c2 : decide (0 < m) = false := decide_eq_false (by omega)
          clear hr hr' hval hend hin hm hlen hi
          go_wp2_with (go_at_call 16; (with_reducible refine (KW.out _ _ HR'.out).mono ?_); rintro e w4 ⟨v4, rfl, hr4, hb4⟩; have HR4 := Lib.hid hr4; have HB4 := Lib.hid (HB0.out.trans (hb.out.trans hb4)); clear hr4 hb4)
          go_ret2
          exact RwErr.mk HR4.out HB4.out
        · have c1 : decide (i < n) = false := decide_eq_false (by omega)
          clear hr hr' hval hend hin hm hlen hi
          go_wp2_with (go_at_call 16; (with_reducible refine (KW.out _ _ HR'.out).mono ?_); rintro e w4 ⟨v4, rfl, hr4, hb4⟩; have HR4 := Lib.hid hr4; have HB4 := Lib.hid (HB0.out.trans (hb.out.trans hb4)); clear hr4 hb4)
          go_ret2
          exact RwErr.mk HR4.out HB4.out
      · have c1 : decide (i < n) = true := decide_eq_true (by omega)
        have c2 : decide (0 < m) = true := decide_eq_true (by omega)
        have hi1 : Hid (i + 1 ≤ n) := by show i + 1 ≤ n; omega
        have ib : (i : Int) ≤ 262144 := by have := HI.out i hi (by rw [hm]; omega); omega
        have KM1 := Lib.hid (KM.out i hi wr _ _ hr.out (HX1.out.bl hb.out))
        have HPW : Hid (A ^ i * A = A ^ (i + 1)) := (Nat.pow_succ A i).symm
        rw [HPW.out] at KM1
        clear hend hm hlen hi
        go_wp2_with (go_at_call 44; (with_reducible refine KM1.out.mono ?_); rintro e w4 ⟨v4, rfl, hr4, hb4⟩; have HR4 := Lib.hid hr4; have HB4 := Lib.hid (hb.out.trans hb4); clear hr4 hb4)
        go_roundw
        case rel => exact ⟨i + 1, hi1.out, by go_num, HR4, HB4⟩
        case measure => have := hi1.out; simp [intOf] <;> omega
set_option maxRecDepth 100000 in
set_option maxHeartbeats 2000000 in
theorem r6pow_long (W : World) (va : Value) (A n : Nat) (ha : Nu W va A) (hsa : Sd A) (hn : n < 9223372036854775808) (hs : 262144 < blen A * n) :
    Calls Try.prog 24 #[va, .int .i64 (n : Int)] W (RwErr .u64 W [] 4) := by
  have KA := Lib.hid (kDg ha)
  have KB := Lib.hid (kBits A hsa)
  have d0 : decide ((n : Int) < 0) = false := decide_eq_false (by omega)
  have nb : (n : Int) ≤ 9223372036854775807 := by omega
  obtain ⟨b, eb⟩ : ∃ b, blen A = b := ⟨_, rfl⟩
  rw [eb] at KB hs
  have hbb : b ≤ 12800 := by rw [← eb]; have := blen_sz (k := 200) hsa; omega
  have hb0 : (b : Int) ≤ 12800 := by omega
  have hz : b ≠ 0 := fun h => by rw [h, Nat.zero_mul] at hs; omega
  obtain ⟨q, hq⟩ : ∃ q, 262144 / b = q := ⟨_, rfl⟩
  have hqn : q < n := by rw [← hq, Nat.div_lt_iff_lt_mul (by omega), Nat.mul_comm]; exact hs
  have r1 : (262144 : Int) / (b : Int) = (q : Int) := by rw [← hq]; exact (Int.natCast_ediv 262144 b).symm
  have d1 : decide ((0 : Int) < (b : Int)) = true := decide_eq_true (by omega)
  have d2 : decide (0 < b) = true := decide_eq_true (by omega)
  have d3 : decide ((q : Int) < (n : Int)) = true := decide_eq_true (by omega)
  have d4 : decide (q < n) = true := decide_eq_true hqn
  have hbz : ¬ (b : Int) = 0 := by omega
  clear hs hn eb hq hqn ha hsa hz
  go_enter Try.func24, Try.ntmps24
  go_wp2_with (first
    | (go_at_call 17; (with_reducible refine KA.out.mono ?_); rintro e w1 ⟨v1, rfl, hr1, hb1⟩; have HR1 := Lib.hid hr1; have HB1 := Lib.hid hb1; clear hr1 hb1)
    | (go_at_call 20; (with_reducible refine (KB.out _ _ HR1.out).mono ?_); rintro e w2 ⟨rfl, rfl⟩))
  go_ret2
  exact RwErr.mk (Rw.nil _ _) HB1.out
set_option maxRecDepth 100000 in
theorem r6pow_neg (W : World) (va : Value) (n : Int) (hn : n < 0) :
    Calls Try.prog 24 #[va, .int .i64 n] W (RwErr .u64 W [] 1) := by
  have d0 : decide (n < 0) = true := decide_eq_true hn
  go_enter Try.func24, Try.ntmps24
  go_wp2
  go_ret2
  exact RwErr.mk (Rw.nil _ _) (Bl.refl _)
end Go.Proofs.Ytfmkbeffhdphfaa
