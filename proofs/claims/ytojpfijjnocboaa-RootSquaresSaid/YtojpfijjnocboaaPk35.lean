/-
  Package nat: Shr over numbers. · Rows of one and two words, read cell by cell. · Package root: First, Step, over numbers.
-/
import Derived.Test.YtojpfijjnocboaaPk34
import Derived.Test.YtojpfijjnocboaaPk14
import Derived.Test.YtojpfijjnocboaaPk6
import Derived.Test.YtojpfijjnocboaaPk33
import Derived.Test.YtojpfijjnocboaaPk21
namespace Go.Proofs.Ytojpfijjnocboaa
open Go.RowKit
set_option linter.unusedVariables false
set_option linter.unusedSimpArgs false

/-- A slice from place j on. -/
theorem src_drop {k : IntKind} {w : World} {ad : Addr} {l : List Nat} (h : Src k w (some ad) l) (j : Nat) : Src k w (some (ad.add j)) (l.drop j) := by
  intro hl
  rw [List.length_drop] at hl
  obtain ⟨ad', e, hb, hx⟩ := h (by omega)
  cases e
  refine ⟨_, rfl, by rw [blk_add]; exact hb, fun i hi => ?_⟩
  rw [List.length_drop] at hi
  rw [List.getElem_drop, show (ad.add j).add i = ad.add (j + i) from Addr.add_add _ _ _]
  exact hx (j + i) (by omega)
theorem rw_drop {k : IntKind} {w : World} {ad : Addr} {L c : Nat} {l : List Nat} (h : Rw k w (.slice (some ad) L c) l) (j : Nat) : Rw k w (.slice (some (ad.add j)) (L - j) (c - j)) (l.drop j) := by
  obtain ⟨A', c', e, h1, h2, h3, h4⟩ := h
  cases e
  refine ⟨_, _, by rw [List.length_drop], by rw [List.length_drop]; omega, by omega, (fun h => by cases h), src_drop h4 j⟩
theorem shr_nil (X n : Nat) (h : (dig 18446744073709551616 X).length ≤ n / 64) : X / 2 ^ n = 0 := by
  refine Nat.div_eq_of_lt ?_
  rw [two_n n]
  exact Nat.lt_of_lt_of_le (dig_lt _ (by decide) X) (Nat.le_trans (Nat.pow_le_pow_right (by decide) h) (Nat.le_mul_of_pos_right _ (Nat.two_pow_pos _)))
theorem shr_one (X n : Nat) : X / 18446744073709551616 ^ (n / 64) * 2 ^ (64 - n % 64) / 18446744073709551616 ^ 1 = X / 2 ^ n := by
  rw [Nat.pow_one, two_n n, ← Nat.div_div_eq_div_mul, ← pq64 (n % 64) (by omega), Nat.mul_comm (2 ^ (n % 64)), Nat.mul_comm _ (2 ^ (64 - n % 64)), Nat.mul_div_mul_left _ _ (Nat.two_pow_pos _)]

set_option maxRecDepth 100000 in
set_option maxHeartbeats 2000000 in
theorem pShr : CShr := by
  intro W v X n hv hn1 hn2
  have h1 := nu_len hv
  have KP := Lib.hid (fun w => pplace_any n hn1 hn2 w)
  have KT := Lib.hid (trimN W v X hv)
  have hu : n.toNat / 64 ≤ 524288 := by omega
  by_cases hle : (dig 18446744073709551616 X).length ≤ n.toNat / 64
  · rw [shr_nil X n.toNat hle, dig_zero]
    obtain ⟨l, hl⟩ : ∃ l, dig 18446744073709551616 X = l := ⟨_, rfl⟩
    rw [hl] at KT hle h1
    obtain ⟨L, hL⟩ : ∃ k, l.length = k := ⟨_, rfl⟩
    have HL := Lib.hid hL
    rw [hL] at hle h1
    obtain ⟨s, hs⟩ : ∃ s, n.toNat % 64 = s := ⟨_, rfl⟩
    obtain ⟨up, hup⟩ : ∃ s, n.toNat / 64 = s := ⟨_, rfl⟩
    rw [hs, hup] at KP
    rw [hup] at hle hu
    have d1 : decide (L ≤ up) = true := decide_eq_true hle
    clear hs hup hl hL hv hle
    go_enter Try.func34, Try.ntmps34
    go_wp2_with (first
      | (go_at_call 55; (with_reducible refine (KP.out _).mono ?_); rintro e w' ⟨rfl, rfl⟩)
      | (go_at_call 42; (with_reducible refine KT.out.mono ?_); rintro e w' ⟨v2, rfl, rfl, hv2⟩; obtain ⟨A, c, rfl, _⟩ := hv2; rw [HL.out]))
    go_ret
    exact RwEnd.mk (Rw.nil _ _) (Bl.refl _)
  · have hgt : n.toNat / 64 < (dig 18446744073709551616 X).length := by omega
    have hd := dig_drop 18446744073709551616 (by decide) (n.toNat / 64) X
    have hdl : (dig 18446744073709551616 (X / 18446744073709551616 ^ (n.toNat / 64))).length = (dig 18446744073709551616 X).length - n.toNat / 64 := by rw [← hd, List.length_drop]
    have KR := Lib.hid (fun v2 (h : Rw .u64 W v2 (dig 18446744073709551616 (X / 18446744073709551616 ^ (n.toNat / 64)))) => raiseN W v2 _ (64 - n.toNat % 64) (by omega) h (by omega))
    have hX' : 0 < X / 18446744073709551616 ^ (n.toNat / 64) := by
      rcases Nat.eq_zero_or_pos (X / 18446744073709551616 ^ (n.toNat / 64)) with h | h
      · rw [h, dig_zero] at hdl; simp at hdl; omega
      · exact h
    have hkp := dig_len_pos 18446744073709551616 (by decide) _ (Nat.mul_pos hX' (Nat.two_pow_pos (64 - n.toNat % 64)))
    have hk := raised_len (X / 18446744073709551616 ^ (n.toNat / 64)) (64 - n.toNat % 64) (by omega) (by omega)
    have HE := Lib.hid (dig_drop 18446744073709551616 (by decide) 1 (X / 18446744073709551616 ^ (n.toNat / 64) * 2 ^ (64 - n.toNat % 64)))
    rw [shr_one] at HE
    obtain ⟨s, hs⟩ : ∃ s, n.toNat % 64 = s := ⟨_, rfl⟩
    obtain ⟨up, hup⟩ : ∃ s, n.toNat / 64 = s := ⟨_, rfl⟩
    rw [hs, hup] at KP KR hk hkp HE
    rw [hup] at hgt hd hdl hu
    have r1 : (64 : Int) - (s : Int) = ((64 - s : Nat) : Int) := by omega
    obtain ⟨t, ht⟩ : ∃ t, 64 - s = t := ⟨_, rfl⟩
    rw [ht] at r1 KR hk hkp HE
    have r2 : IntKind.u64.wrap (t : Int) = (t : Int) := by rw [IntKind.wrap_u64]; omega
    have r3 : (t : Int) ≤ 64 := by omega
    have r4 : (s : Int) ≤ 64 := by omega
    obtain ⟨l, hl⟩ : ∃ l, dig 18446744073709551616 X = l := ⟨_, rfl⟩
    rw [hl] at KT hgt h1 hd hdl
    obtain ⟨L, hL⟩ : ∃ k, l.length = k := ⟨_, rfl⟩
    have HL := Lib.hid hL
    rw [hL] at hgt h1 hdl
    have HD := Lib.hid hd
    obtain ⟨m, hm⟩ : ∃ m, dig 18446744073709551616 (X / 18446744073709551616 ^ up * 2 ^ t) = m := ⟨_, rfl⟩
    rw [hm] at KR hkp hk HE
    obtain ⟨k, hkk⟩ : ∃ k, m.length = k := ⟨_, rfl⟩
    rw [hkk] at hkp hk
    have HK := Lib.hid hkk
    have d1 : decide (L ≤ up) = false := decide_eq_false (by omega)
    have n1 : (up : Int) < (L : Int) := by omega
    have n2 : (0 : Int) ≤ (up : Int) ∧ (up : Int) ≤ (L : Int) := by omega
    have n3 : (0 : Int) ≤ 1 ∧ (1 : Int) ≤ (k : Int) := by omega
    have n4 : (L : Int) ≤ 1048576 := by omega
    have n5 : (k : Int) ≤ 1048577 := by omega
    have n6 : ¬ L = up := by omega
    have HKP := Lib.hid hkp
    have HKK := Lib.hid hk
    have HGT := Lib.hid hgt
    have HDL := Lib.hid hdl
    clear hs hup hl hL hv hle hgt hm hkk hk hkp hd hdl ht hX'
    go_enter Try.func34, Try.ntmps34
    go_wp2_with (first
      | (go_at_call 55; (with_reducible refine (KP.out _).mono ?_); rintro e w' ⟨rfl, rfl⟩)
      | (go_at_call 42; (with_reducible refine KT.out.mono ?_); rintro e w' ⟨v2, rfl, rfl, hv2⟩; have HV := Lib.hid hv2; obtain ⟨A, c, rfl, hc, _, _, hA⟩ := hv2; obtain ⟨ad, rfl, _⟩ := hA (by rw [HL.out]; have := HGT.out; omega); rw [HL.out] at hc ⊢; have hci : (L : Int) ≤ (c : Int) := (by omega); have n7 : ¬ c = up := (by have := HGT.out; omega); have HW := Lib.hid (rw_drop HV.out up); rw [HD.out, HL.out] at HW; clear hA)
      | (go_at_call 56; refine (KR.out _ HW.out).mono ?_; rintro e w2 ⟨v3, rfl, hv3, hb3⟩; have HB3 := Lib.hid hb3; have HV3 := Lib.hid hv3; obtain ⟨A3, c3, rfl, hc3, _, _, hx3⟩ := hv3; obtain ⟨ad3, rfl, _⟩ := hx3 (by rw [HK.out]; exact HKP.out); rw [HK.out] at hc3 ⊢; have hci3 : (k : Int) ≤ (c3 : Int) := (by omega); have H3 := Lib.hid hc3; clear hb3 hx3))
    · rename_i h31
      have hk1 : k = 1 := by have := H3.out; have := HKP.out; omega
      have hm1 : m.drop 1 = [] := by rw [List.drop_eq_nil_iff, HK.out]; omega
      go_ret
      exact RwEnd.of (m := []) ⟨some ad3, 0, by rw [hk1]; rfl, Nat.le_refl _, by decide, (fun h => by cases h), Src.nil _ _ _⟩ HB3.out (hm1.symm.trans HE.out)
    · go_ret
      have h5 := rw_drop HV3.out 1
      rw [HK.out] at h5
      exact RwEnd.of h5 HB3.out HE.out
end Go.Proofs.Ytojpfijjnocboaa
namespace Go.Proofs.Ytojpfijjnocboaa
open Go.RowKit
set_option linter.unusedVariables false

theorem nu_lit {w : World} {e : TypeId} {x b : Nat} {z : Int} (hb : b = w.heap.size) (hz : z = (x : Int)) (hx : x < 18446744073709551616) : Nu (w.alloc (.cells #[.int .u64 z] e)) (.slice (some ⟨b, 0, none⟩) 1 1) x := by
  subst hz
  exact ⟨[x], lit_at hb, all_cons hx (all_nil _), by simp, val_one _ x⟩

theorem row1 {k : IntKind} {w : World} {v : Value} {x : Nat} (h : Rw k w v [x]) : ∃ ad c, v = .slice (some ad) 1 c ∧ ad.block < w.heap.size ∧ w.cell? (ad.add 0) = some (.int k (x : Int)) := by
  obtain ⟨A, c, hv, _, _, _, hs⟩ := h
  obtain ⟨ad, hA, hb, hx⟩ := hs (by simp)
  subst hA
  exact ⟨ad, c, hv, hb, hx 0 (by simp)⟩
theorem row2 {k : IntKind} {w : World} {v : Value} {x y : Nat} (h : Rw k w v [x, y]) : ∃ ad c, v = .slice (some ad) 2 c ∧ ad.block < w.heap.size ∧ w.cell? (ad.add 0) = some (.int k (x : Int)) ∧ w.cell? (ad.add 1) = some (.int k (y : Int)) := by
  obtain ⟨A, c, hv, _, _, _, hs⟩ := h
  obtain ⟨ad, hA, hb, hx⟩ := hs (by simp)
  subst hA
  exact ⟨ad, c, hv, hb, hx 0 (by simp), hx 1 (by simp)⟩
theorem keep_cell {W w : World} {a : Addr} {i : Nat} {u : Value} (h : W.cell? (a.add i) = some u) (hb : a.block < W.heap.size) (g : Bl W w) : w.cell? (a.add i) = some u := (g.cell (by rw [blk_add]; exact hb)).trans h
/-- The highest place of a row. -/
theorem src_last {k : IntKind} {w : World} {A : Option Addr} {l : List Nat} {j n x : Nat} (h : Src k w A l) (hx : l[j]? = some x) (hn : l.length = n) : ∃ ad, A = some ad ∧ w.cell? (ad.add j) = some (.int k (x : Int)) := by
  obtain ⟨hj, e⟩ := List.getElem?_eq_some_iff.1 hx
  obtain ⟨ad, ha, hc⟩ := h.at_ hj
  rw [e] at hc
  exact ⟨ad, ha, hc⟩
end Go.Proofs.Ytojpfijjnocboaa
namespace Go.Proofs.Ytojpfijjnocboaa
open Go.RowKit
set_option linter.unusedVariables false
set_option linter.unusedSimpArgs false

theorem blen_nu {W : World} {v : Value} {A : Nat} (h : Nu W v A) : blen A ≤ 67108864 := by
  have h1 := nu_len h
  have h2 : Sz (dig 18446744073709551616 A).length A := dig_lt 18446744073709551616 (by decide) A
  have := blen_sz h2
  omega

set_option maxRecDepth 100000 in
set_option maxHeartbeats 4000000 in
theorem pFirst (W : World) (va : Value) (A : Nat) (ha : Nu W va A) :
    Calls Try.prog 20 #[va] W (RwEnd .u64 W (dig 18446744073709551616 (fst A))) := by
  have hb := blen_nu ha
  have KL := Lib.hid (fun W' (g : Bl W W') => pLen W' va A (ha.bl g))
  have e0 : fst A = 2 ^ ((blen A + 1) / 2) := rfl
  obtain ⟨b, eb⟩ : ∃ b, blen A = b := ⟨_, rfl⟩
  rw [eb] at KL hb e0
  obtain ⟨c, ec⟩ : ∃ c, (b + 1) / 2 = c := ⟨_, rfl⟩
  rw [ec] at e0
  have r1 : ((b : Int) + 1) / 2 = (c : Int) := by omega
  have KS := Lib.hid (fun W' v' (h : Nu W' v' 1) => pShl W' v' 1 (c : Int) h (by omega) (by omega))
  rw [Int.toNat_natCast, Nat.one_mul, ← e0] at KS
  have Z1 : Hid ((1 : Int) = ((1 : Nat) : Int)) := rfl
  have Z2 : Hid (1 < 18446744073709551616) := by show 1 < 18446744073709551616; decide
  have bb : (b : Int) ≤ 67108864 := by omega
  clear ha hb e0 eb ec
  go_enter Try.func20, Try.ntmps20
  go_wp2_with (first
    | (go_at_call 38; (with_reducible refine (KL.out _ ((Bl.refl _).alloc _)).mono ?_); rintro e w1 ⟨rfl, hb1⟩; have G1 := Lib.hid (((Bl.refl _).alloc _).trans hb1); have N1 := Lib.hid ((nu_lit (x := 1) rfl Z1.out Z2.out).bl hb1); clear hb1)
    | (go_at_call 37; (with_reducible refine (KS.out _ _ N1.out).mono ?_); rintro e w2 ⟨v2, rfl, hr2, hb2⟩; have HR2 := Lib.hid hr2; have HB2 := Lib.hid (G1.out.trans hb2); clear hr2 hb2))
  go_ret
  exact RwEnd.mk HR2.out HB2.out

set_option maxRecDepth 100000 in
set_option maxHeartbeats 4000000 in
theorem pStep (W : World) (vx va : Value) (A X j : Nat) (hx : Nu W vx X) (ha : Nu W va A) (hsx : Sz j X) (hsa : Sz j A) (hj : j < 1048574) (hp : 0 < X) :
    Calls Try.prog 18 #[vx, va] W (RwErr .u64 W (dig 18446744073709551616 (nwt A X)) 0) := by
  have KD := Lib.hid (pDiv W va vx A X j j ha hx hp hsa hsx (by omega) (by omega))
  have e0 : nwt A X = (X + A / X) / 2 := rfl
  rw [e0]
  have sq : Sz j (A / X) := hsa.le (Nat.div_le_self _ _)
  obtain ⟨q, eq⟩ : ∃ q, A / X = q := ⟨_, rfl⟩
  obtain ⟨r, er⟩ : ∃ q, A % X = q := ⟨_, rfl⟩
  rw [eq, er] at KD
  rw [eq] at sq ⊢
  have KA := Lib.hid (fun W' v' (g : Bl W W') (h : Rw .u64 W' v' (dig 18446744073709551616 q)) => pAdd W' vx v' X q (hx.bl g) (Nu.dig h sq (by omega)))
  have sz := hsx.add sq
  obtain ⟨s, es⟩ : ∃ s, X + q = s := ⟨_, rfl⟩
  rw [es] at KA sz ⊢
  have KS := Lib.hid (fun W' v' (h : Rw .u64 W' v' (dig 18446744073709551616 s)) => pShr W' v' s 1 (Nu.dig h sz (by omega)) (by decide) (by decide))
  have e2 : s / 2 ^ (1 : Int).toNat = s / 2 := rfl
  rw [e2] at KS
  have n0 : ((0 : Int) != 0) = false := rfl
  clear hx ha hsx hsa hj hp e0 sq eq er sz es e2
  go_enter Try.func18, Try.ntmps18
  go_wp2_with (first
    | (go_at_call 33; (with_reducible refine KD.out.mono ?_); rintro e w1 ⟨v1, v2, rfl, hr, hs, hb'⟩; have R1 := Lib.hid hr; have G1 := Lib.hid hb'; clear hr hs hb')
    | (go_at_call 35; (with_reducible refine (KA.out _ _ G1.out R1.out).mono ?_); rintro e w2 ⟨v3, rfl, hr, hb'⟩; have R2 := Lib.hid hr; have G2 := Lib.hid (G1.out.trans hb'); clear hr hb')
    | (go_at_call 34; (with_reducible refine (KS.out _ _ R2.out).mono ?_); rintro e w3 ⟨v4, rfl, hr, hb'⟩; have R3 := Lib.hid hr; have G3 := Lib.hid (G2.out.trans hb'); clear hr hb'))
  go_ret2
  exact RwErr.mk R3.out G3.out

set_option maxRecDepth 100000 in
theorem pStep0 (W : World) (vx va : Value) (A : Nat) (hx : Nu W vx 0) (ha : Nu W va A) :
    Calls Try.prog 18 #[vx, va] W (RwErr .u64 W [] 2) := by
  have KD := Lib.hid (pDiv0 W va vx A ha hx)
  clear hx ha
  go_enter Try.func18, Try.ntmps18
  go_wp2_with (go_at_call 33; (with_reducible refine KD.out.mono ?_); rintro e w1 ⟨v1, v2, rfl, hr, hs, hb'⟩; have G1 := Lib.hid hb'; clear hr hs hb')
  go_ret2
  exact RwErr.mk (Rw.nil _ _) G1.out
end Go.Proofs.Ytojpfijjnocboaa
