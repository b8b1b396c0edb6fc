/-
  The walk of ProdBits.
-/
import Derived.Test.YteoeaogfeblokaaProdS
import Derived.Test.YteoeaogfeblokaaProdI
namespace Go.Proofs.Yteoeaogfeblokaa
open Go.RowKit
set_option linter.unusedVariables false
set_option linter.unusedSimpArgs false

theorem blen_mul {A B : Nat} (hA : 0 < A) (hB : 0 < B) : 0 < blen A ∧ 0 < blen B ∧ (blen (A * B) = blen A + blen B ∨ blen (A * B) + 1 = blen A + blen B) := by
  have hAB : 0 < A * B := Nat.mul_pos hA hB
  unfold blen
  rw [if_neg (by omega), if_neg (by omega), if_neg (by omega)]
  refine ⟨by omega, by omega, ?_⟩
  have a1 := Nat.log2_self_le (n := A) (by omega)
  have a2 := Nat.lt_log2_self (n := A)
  have b1 := Nat.log2_self_le (n := B) (by omega)
  have b2 := Nat.lt_log2_self (n := B)
  have l1 : 2 ^ (Nat.log2 A + Nat.log2 B) ≤ A * B := by rw [Nat.pow_add]; exact Nat.mul_le_mul a1 b1
  have l2 : A * B < 2 ^ (Nat.log2 A + 1 + (Nat.log2 B + 1)) := by rw [Nat.pow_add]; exact Nat.mul_lt_mul'' a2 b2
  have c1 := (Nat.le_log2 (by omega)).2 l1
  have c2 := (Nat.log2_lt (by omega)).2 l2
  omega
theorem last_pos {X : Nat} (hX : 0 < X) : ∃ k x, (dig 18446744073709551616 X).length = k + 1 ∧ (dig 18446744073709551616 X)[k]? = some x ∧ 0 < x ∧ x < 18446744073709551616 := by
  have hne := dig_ne 18446744073709551616 X (by decide) hX
  have h1 := nm_dig 18446744073709551616 (by decide) X hne
  have h2 := dig_len_pos 18446744073709551616 (by decide) X hX
  rw [List.getLast_eq_getElem] at h1
  refine ⟨(dig 18446744073709551616 X).length - 1, _, by omega, List.getElem?_eq_getElem (by omega), by omega, all_dig _ (by decide) X _ (by omega)⟩
theorem bitLen_pos {x : Nat} (h : 0 < x) (hx : x < 18446744073709551616) : 0 < Lib.bitLen x ∧ Lib.bitLen x ≤ 64 := by
  obtain ⟨b1, b2, b3⟩ := bl_bounds x h hx
  exact ⟨by omega, bl_le x hx⟩

set_option maxRecDepth 100000 in
set_option maxHeartbeats 8000000 in
theorem prodBits_walk (va : Value) (la : List Nat) (vb : Value) (lb : List Nat) (t : Int) (ha : All 18446744073709551616 la) (hb : All 18446744073709551616 lb) (ht : -9223372036854775808 ≤ t ∧ t ≤ 9223372036854775807) (w : World) (ra : Rw .u64 w va la) (rb : Rw .u64 w vb lb) :
    Calls Try.prog 6 #[va, vb, .int .i64 t] w fun e w' => e = .returned (.bool true) ∧ Bl w w' := by
  by_cases hf : la.length ≤ 40 ∧ lb.length ≤ 40
  · skip
    have FE := Lib.hid (fun W h1 h2 => few5_yes va vb la lb hf.1 hf.2 W h1 h2)
    have Na : Hid (Nu w va (val 18446744073709551616 la)) := Nu.mk ra ha (by omega)
    have sa := Lib.hid (Sz.of_val ha (k := 40) (by omega))
    have Qa := Lib.hid ra
    obtain ⟨A, eA⟩ : ∃ x, val 18446744073709551616 la = x := ⟨_, rfl⟩
    rw [eA] at Na sa
    have Nb : Hid (Nu w vb (val 18446744073709551616 lb)) := Nu.mk rb hb (by omega)
    have sb := Lib.hid (Sz.of_val hb (k := 40) (by omega))
    have Qb := Lib.hid rb
    obtain ⟨B, eB⟩ : ∃ x, val 18446744073709551616 lb = x := ⟨_, rfl⟩
    rw [eB] at Nb sb
    obtain ⟨P, eP⟩ : ∃ x, A * B = x := ⟨_, rfl⟩
    have sP : Hid (Sz 80 P) := (by rw [← eP]; exact szmul sa.out sb.out)
    have sA := sa
    have sB := sb
    obtain ⟨p, ep⟩ : ∃ x, blen A = x := ⟨_, rfl⟩
    obtain ⟨q, eq⟩ : ∃ x, blen B = x := ⟨_, rfl⟩
    obtain ⟨r, er⟩ : ∃ x, blen P = x := ⟨_, rfl⟩
    have bp : p ≤ 2560 := by rw [← ep]; exact blen_sz sA.out
    have bq : q ≤ 2560 := by rw [← eq]; exact blen_sz sB.out
    have br : r ≤ 5120 := by rw [← er]; exact blen_sz sP.out
    have z1 : Sz 40 1 := Nat.lt_of_lt_of_le (by decide) (Nat.pow_le_pow_right (by decide) (show 1 ≤ 40 by decide))
    have K1 : Hid (∀ W v u, Nu W v A → Nu W u B → Calls Try.prog 15 #[v, u, .int .i64 t] W (RwEnd .u64 W (dig 18446744073709551616 P))) := fun W v u h0 h1 => by
      have c := pKara W v u A B 40 t h0 h1 sA.out sB.out (by decide) ht.2 ht.1
      rw [eP] at c
      exact c
    have K2 : Hid (∀ W v u, Nu W v A → Nu W u 1 → Calls Try.prog 15 #[v, u, .int .i64 t] W (RwEnd .u64 W (dig 18446744073709551616 A))) := fun W v u h0 h1 => by
      have c := pKara W v u A 1 40 t h0 h1 sA.out z1 (by decide) ht.2 ht.1
      rw [Nat.mul_one] at c
      exact c
    have D1 : Hid (∀ W v, Nu W v A → Calls Try.prog 23 #[v] W (RwEnd .i64 W (dig 65536 A))) := fun W v h0 => by
      have c := kDg h0
      exact c
    have D2 : Hid (∀ W v, De W v A → Calls Try.prog 21 #[v] W (RwEnd .u64 W (dig 18446744073709551616 A))) := fun W v h0 => by
      have c := kWords A (sA.out.sd (by decide)) W v h0
      exact c
    have E1 := Lib.hid (kSame A (sA.out.sd (by decide)))
    have eK3 := ep
    have eK4 := eq
    have eK5 := er
    have K3 : Hid (∀ W v, Nu W v A → Calls Try.prog 24 #[v] W fun e w => e = .returned (.int .i64 (((p) : Nat) : Int)) ∧ Bl W w) := fun W v h0 => by
      have c := bits5_any W v A 100 h0 (sA.out.mono (by decide)) (by decide)
      rw [eK3] at c
      exact c
    have K4 : Hid (∀ W v, Nu W v B → Calls Try.prog 24 #[v] W fun e w => e = .returned (.int .i64 (((q) : Nat) : Int)) ∧ Bl W w) := fun W v h0 => by
      have c := bits5_any W v B 100 h0 (sB.out.mono (by decide)) (by decide)
      rw [eK4] at c
      exact c
    have K5 : Hid (∀ W v, Nu W v P → Calls Try.prog 24 #[v] W fun e w => e = .returned (.int .i64 (((r) : Nat) : Int)) ∧ Bl W w) := fun W v h0 => by
      have c := bits5_any W v P 100 h0 (sP.out.mono (by decide)) (by decide)
      rw [eK5] at c
      exact c
    have Z1 : Hid ((1 : Int) = ((1 : Nat) : Int)) := rfl
    have Z4 : Hid (1 < 18446744073709551616) := by show 1 < 18446744073709551616; decide
    obtain ⟨n, en⟩ : ∃ n, p + q = n := ⟨_, rfl⟩
    have r1 : (p : Int) + (q : Int) = (n : Int) := by omega
    have bpi : (p : Int) ≤ 2560 := by omega
    have bqi : (q : Int) ≤ 2560 := by omega
    have bri : (r : Int) ≤ 5120 := by omega
    have bni : (n : Int) ≤ 5120 := by omega
    rcases Nat.eq_zero_or_pos A with hA | hA
    · have hp0 : p = 0 := by rw [← ep, hA]; rfl
      subst hp0
      have hP0 : P = 0 := by rw [← eP, hA, Nat.zero_mul]
      have HK : Hid ((dig 18446744073709551616 P).length = 0) := by show (dig 18446744073709551616 P).length = 0; rw [hP0]; rfl
      clear ha hb ra rb eA eB eP ep eq er eK3 eK4 eK5 en bp bq br hf ht sA sB z1 hP0 hA
      go_enter Try.func6, Try.ntmps6
      go_wp2_with (first
        | (go_at_call 10; (with_reducible refine (shown5_any _).mono ?_); rintro e w1 ⟨rfl, hb'⟩; have G1 := Lib.hid hb'; clear hb')
        | (go_at_call 11; (with_reducible refine (FE.out _ (Qa.out.bl G1.out) (Qb.out.bl G1.out)).mono ?_); rintro e w' ⟨rfl, rfl⟩)
        | (go_at_call 15; (with_reducible refine (K1.out _ _ _ (Na.out.bl G1.out) (Nb.out.bl G1.out)).mono ?_); rintro e w2 ⟨vp, rfl, hr, hb'⟩; have Np := Lib.hid (Nu.dig hr sP.out (by decide)); have Rp := Lib.hid (hr); have G2 := Lib.hid hb'; clear hb'; obtain ⟨Ap, cp, rfl, _, _, _, hxp⟩ := hr; have HXP := Lib.hid hxp; clear hxp; rw [HK.out] at Np Rp ⊢)
        | (go_at_call 24; (with_reducible refine (K3.out _ _ (Na.out.bl (G1.out.trans G2.out))).mono ?_); rintro e w3 ⟨rfl, hb'⟩; have G3 := Lib.hid hb'; clear hb')
        | (go_at_call 24; (with_reducible refine (K4.out _ _ (Nb.out.bl (G1.out.trans (G2.out.trans G3.out)))).mono ?_); rintro e w4 ⟨rfl, hb'⟩; have G4 := Lib.hid hb'; clear hb')
        | (go_at_call 15; (with_reducible refine (K2.out _ _ _ (Na.out.bl ((G1.out.trans (G2.out.trans (G3.out.trans G4.out))).alloc _)) (nu_lit rfl Z1.out Z4.out)).mono ?_); rintro e w5 ⟨v1, rfl, hr, hb'⟩; have R1 := Lib.hid (hr); have G5 := Lib.hid (((Bl.refl _).alloc _).trans hb'); clear hr hb')
        | (go_at_call 23; (with_reducible refine (D1.out _ _ (Na.out.bl (G1.out.trans (G2.out.trans (G3.out.trans (G4.out.trans G5.out)))))).mono ?_); rintro e w6 ⟨d1, rfl, hr, hb'⟩; have G_1 := Lib.hid (hr); have G6 := Lib.hid hb'; clear hr hb')
        | (go_at_call 21; (with_reducible refine (D2.out _ _ G_1.out).mono ?_); rintro e w7 ⟨v2, rfl, hr, hb'⟩; have R2 := Lib.hid (hr); have G7 := Lib.hid hb'; clear hr hb')
        | (go_at_call 13; (with_reducible refine (E1.out _ _ _ (R1.out.bl (G6.out.trans G7.out)) R2.out).mono ?_); rintro e w8 ⟨rfl, hb'⟩; have G8 := Lib.hid hb'; clear hb')
        | (go_at_call 24; (with_reducible refine (K3.out _ _ (Na.out.bl (G1.out.trans (G2.out.trans (G3.out.trans (G4.out.trans (G5.out.trans (G6.out.trans (G7.out.trans G8.out))))))))).mono ?_); rintro e w9 ⟨rfl, hb'⟩; have G9 := Lib.hid hb'; clear hb'))
      go_ret
      exact ⟨rfl, (G1.out.trans (G2.out.trans (G3.out.trans (G4.out.trans (G5.out.trans (G6.out.trans (G7.out.trans (G8.out.trans G9.out))))))))⟩
    · rcases Nat.eq_zero_or_pos B with hB | hB
      · have hq0 : q = 0 := by rw [← eq, hB]; rfl
        subst hq0
        have hp1 : 0 < p := by rw [← ep]; unfold blen; rw [if_neg (by omega)]; omega
        have d1 : ((p : Int) == 0) = false := by rw [beq_eq_false_iff_ne]; omega
        have hP0 : P = 0 := by rw [← eP, hB, Nat.mul_zero]
        have HK : Hid ((dig 18446744073709551616 P).length = 0) := by show (dig 18446744073709551616 P).length = 0; rw [hP0]; rfl
        clear ha hb ra rb eA eB eP ep eq er eK3 eK4 eK5 en bp bq br hf ht sA sB z1 hP0 hA hB hp1
        go_enter Try.func6, Try.ntmps6
        go_wp2_with (first
          | (go_at_call 10; (with_reducible refine (shown5_any _).mono ?_); rintro e w1 ⟨rfl, hb'⟩; have G1 := Lib.hid hb'; clear hb')
          | (go_at_call 11; (with_reducible refine (FE.out _ (Qa.out.bl G1.out) (Qb.out.bl G1.out)).mono ?_); rintro e w' ⟨rfl, rfl⟩)
          | (go_at_call 15; (with_reducible refine (K1.out _ _ _ (Na.out.bl G1.out) (Nb.out.bl G1.out)).mono ?_); rintro e w2 ⟨vp, rfl, hr, hb'⟩; have Np := Lib.hid (Nu.dig hr sP.out (by decide)); have Rp := Lib.hid (hr); have G2 := Lib.hid hb'; clear hb'; obtain ⟨Ap, cp, rfl, _, _, _, hxp⟩ := hr; have HXP := Lib.hid hxp; clear hxp; rw [HK.out] at Np Rp ⊢)
          | (go_at_call 24; (with_reducible refine (K3.out _ _ (Na.out.bl (G1.out.trans G2.out))).mono ?_); rintro e w3 ⟨rfl, hb'⟩; have G3 := Lib.hid hb'; clear hb')
          | (go_at_call 24; (with_reducible refine (K4.out _ _ (Nb.out.bl (G1.out.trans (G2.out.trans G3.out)))).mono ?_); rintro e w4 ⟨rfl, hb'⟩; have G4 := Lib.hid hb'; clear hb')
          | (go_at_call 15; (with_reducible refine (K2.out _ _ _ (Na.out.bl ((G1.out.trans (G2.out.trans (G3.out.trans G4.out))).alloc _)) (nu_lit rfl Z1.out Z4.out)).mono ?_); rintro e w5 ⟨v1, rfl, hr, hb'⟩; have R1 := Lib.hid (hr); have G5 := Lib.hid (((Bl.refl _).alloc _).trans hb'); clear hr hb')
          | (go_at_call 23; (with_reducible refine (D1.out _ _ (Na.out.bl (G1.out.trans (G2.out.trans (G3.out.trans (G4.out.trans G5.out)))))).mono ?_); rintro e w6 ⟨d1, rfl, hr, hb'⟩; have G_1 := Lib.hid (hr); have G6 := Lib.hid hb'; clear hr hb')
          | (go_at_call 21; (with_reducible refine (D2.out _ _ G_1.out).mono ?_); rintro e w7 ⟨v2, rfl, hr, hb'⟩; have R2 := Lib.hid (hr); have G7 := Lib.hid hb'; clear hr hb')
          | (go_at_call 13; (with_reducible refine (E1.out _ _ _ (R1.out.bl (G6.out.trans G7.out)) R2.out).mono ?_); rintro e w8 ⟨rfl, hb'⟩; have G8 := Lib.hid hb'; clear hb')
          | (go_at_call 24; (with_reducible refine (K3.out _ _ (Na.out.bl (G1.out.trans (G2.out.trans (G3.out.trans (G4.out.trans (G5.out.trans (G6.out.trans (G7.out.trans G8.out))))))))).mono ?_); rintro e w9 ⟨rfl, hb'⟩; have G9 := Lib.hid hb'; clear hb')
          | (go_at_call 24; (with_reducible refine (K4.out _ _ (Nb.out.bl (G1.out.trans (G2.out.trans (G3.out.trans (G4.out.trans (G5.out.trans (G6.out.trans (G7.out.trans (G8.out.trans G9.out)))))))))).mono ?_); rintro e w10 ⟨rfl, hb'⟩; have G10 := Lib.hid hb'; clear hb'))
        go_ret
        exact ⟨rfl, (G1.out.trans (G2.out.trans (G3.out.trans (G4.out.trans (G5.out.trans (G6.out.trans (G7.out.trans (G8.out.trans (G9.out.trans G10.out)))))))))⟩
      · obtain ⟨hp1, hq1, hr⟩ := blen_mul hA hB
        rw [ep] at hp1
        rw [eq] at hq1
        rw [eP, er, ep, eq] at hr
        have d1 : ((p : Int) == 0) = false := by rw [beq_eq_false_iff_ne]; omega
        have d2 : ((q : Int) == 0) = false := by rw [beq_eq_false_iff_ne]; omega
        obtain ⟨k, x, hk, hxk, hx0, hxl⟩ := last_pos (show 0 < P by rw [← eP]; exact Nat.mul_pos hA hB)
        obtain ⟨g1, g2⟩ := bitLen_pos hx0 hxl
        have KL := Lib.hid (fun w => rlen_any x hxl w)
        obtain ⟨b, eb⟩ : ∃ b, Lib.bitLen x = b := ⟨_, rfl⟩
        rw [eb] at KL g1 g2
        have hkl : k + 1 ≤ 80 := by rw [← hk]; exact dig_len_of_lt _ (by decide) _ _ sP.out
        have HL := Lib.hid hxk
        have HKK := Lib.hid hk
        obtain ⟨K, eK⟩ : ∃ K, k + 1 = K := ⟨_, rfl⟩
        have HK : Hid ((dig 18446744073709551616 P).length = K) := hk.trans eK
        have i1 : (K : Int) - 1 = (k : Int) := by omega
        have i2 : (0 : Int) ≤ (k : Int) ∧ (k : Int) < (K : Int) := by omega
        have i3 : (K : Int) ≤ 80 := by omega
        have i4 : decide (0 < b) = true := decide_eq_true g1
        have i5 : (b : Int) ≤ 64 := by omega
        rcases hr with hr | hr
        · have hrn : r = n := by omega
          subst hrn
          clear ha hb ra rb eA eB eP ep eq er eK3 eK4 eK5 bp bq br hf ht sA sB z1 hp1 hq1 hA hB hk hxk hx0 hxl g1 g2 eb hkl eK hr
          go_enter Try.func6, Try.ntmps6
          go_wp2_with (first
            | (go_at_call 10; (with_reducible refine (shown5_any _).mono ?_); rintro e w1 ⟨rfl, hb'⟩; have G1 := Lib.hid hb'; clear hb')
            | (go_at_call 11; (with_reducible refine (FE.out _ (Qa.out.bl G1.out) (Qb.out.bl G1.out)).mono ?_); rintro e w' ⟨rfl, rfl⟩)
            | (go_at_call 15; (with_reducible refine (K1.out _ _ _ (Na.out.bl G1.out) (Nb.out.bl G1.out)).mono ?_); rintro e w2 ⟨vp, rfl, hr, hb'⟩; have Np := Lib.hid (Nu.dig hr sP.out (by decide)); have Rp := Lib.hid (hr); have G2 := Lib.hid hb'; clear hb'; obtain ⟨Ap, cp, rfl, _, _, _, hxp⟩ := hr; have HXP := Lib.hid hxp; clear hxp; rw [HK.out] at Np Rp ⊢)
            | (go_at_call 24; (with_reducible refine (K3.out _ _ (Na.out.bl (G1.out.trans G2.out))).mono ?_); rintro e w3 ⟨rfl, hb'⟩; have G3 := Lib.hid hb'; clear hb')
            | (go_at_call 24; (with_reducible refine (K4.out _ _ (Nb.out.bl (G1.out.trans (G2.out.trans G3.out)))).mono ?_); rintro e w4 ⟨rfl, hb'⟩; have G4 := Lib.hid hb'; clear hb')
            | (go_at_call 15; (with_reducible refine (K2.out _ _ _ (Na.out.bl ((G1.out.trans (G2.out.trans (G3.out.trans G4.out))).alloc _)) (nu_lit rfl Z1.out Z4.out)).mono ?_); rintro e w5 ⟨v1, rfl, hr, hb'⟩; have R1 := Lib.hid (hr); have G5 := Lib.hid (((Bl.refl _).alloc _).trans hb'); clear hr hb')
            | (go_at_call 23; (with_reducible refine (D1.out _ _ (Na.out.bl (G1.out.trans (G2.out.trans (G3.out.trans (G4.out.trans G5.out)))))).mono ?_); rintro e w6 ⟨d1, rfl, hr, hb'⟩; have G_1 := Lib.hid (hr); have G6 := Lib.hid hb'; clear hr hb')
            | (go_at_call 21; (with_reducible refine (D2.out _ _ G_1.out).mono ?_); rintro e w7 ⟨v2, rfl, hr, hb'⟩; have R2 := Lib.hid (hr); have G7 := Lib.hid hb'; clear hr hb')
            | (go_at_call 13; (with_reducible refine (E1.out _ _ _ (R1.out.bl (G6.out.trans G7.out)) R2.out).mono ?_); rintro e w8 ⟨rfl, hb'⟩; have G8 := Lib.hid hb'; clear hb')
            | (go_at_call 24; (with_reducible refine (K3.out _ _ (Na.out.bl (G1.out.trans (G2.out.trans (G3.out.trans (G4.out.trans (G5.out.trans (G6.out.trans (G7.out.trans G8.out))))))))).mono ?_); rintro e w9 ⟨rfl, hb'⟩; have G9 := Lib.hid hb'; clear hb')
            | (go_at_call 24; (with_reducible refine (K4.out _ _ (Nb.out.bl (G1.out.trans (G2.out.trans (G3.out.trans (G4.out.trans (G5.out.trans (G6.out.trans (G7.out.trans (G8.out.trans G9.out)))))))))).mono ?_); rintro e w10 ⟨rfl, hb'⟩; have G10 := Lib.hid hb'; clear hb')
            | (go_at_call 24; (with_reducible refine (K5.out _ _ (Np.out.bl (G3.out.trans (G4.out.trans (G5.out.trans (G6.out.trans (G7.out.trans (G8.out.trans (G9.out.trans G10.out))))))))).mono ?_); rintro e w11 ⟨rfl, hb'⟩; have G11 := Lib.hid hb'; clear hb'; have hcell := src_last (HXP.out.bl (G3.out.trans (G4.out.trans (G5.out.trans (G6.out.trans (G7.out.trans (G8.out.trans (G9.out.trans (G10.out.trans G11.out))))))))) HL.out HK.out; obtain ⟨ad, rfl, hcell⟩ := hcell)
            | (go_at_call 25; (with_reducible refine (KL.out _).mono ?_); rintro e w' ⟨rfl, rfl⟩))
          go_ret
          exact ⟨rfl, (G1.out.trans (G2.out.trans (G3.out.trans (G4.out.trans (G5.out.trans (G6.out.trans (G7.out.trans (G8.out.trans (G9.out.trans (G10.out.trans G11.out))))))))))⟩
        · have d3 : ((r : Int) == (n : Int)) = false := by rw [beq_eq_false_iff_ne]; omega
          have r2 : (n : Int) - 1 = (r : Int) := by omega
          clear ha hb ra rb eA eB eP ep eq er eK3 eK4 eK5 en bp bq br hf ht sA sB z1 hp1 hq1 hA hB hk hxk hx0 hxl g1 g2 eb hkl eK hr
          go_enter Try.func6, Try.ntmps6
          go_wp2_with (first
            | (go_at_call 10; (with_reducible refine (shown5_any _).mono ?_); rintro e w1 ⟨rfl, hb'⟩; have G1 := Lib.hid hb'; clear hb')
            | (go_at_call 11; (with_reducible refine (FE.out _ (Qa.out.bl G1.out) (Qb.out.bl G1.out)).mono ?_); rintro e w' ⟨rfl, rfl⟩)
            | (go_at_call 15; (with_reducible refine (K1.out _ _ _ (Na.out.bl G1.out) (Nb.out.bl G1.out)).mono ?_); rintro e w2 ⟨vp, rfl, hr, hb'⟩; have Np := Lib.hid (Nu.dig hr sP.out (by decide)); have Rp := Lib.hid (hr); have G2 := Lib.hid hb'; clear hb'; obtain ⟨Ap, cp, rfl, _, _, _, hxp⟩ := hr; have HXP := Lib.hid hxp; clear hxp; rw [HK.out] at Np Rp ⊢)
            | (go_at_call 24; (with_reducible refine (K3.out _ _ (Na.out.bl (G1.out.trans G2.out))).mono ?_); rintro e w3 ⟨rfl, hb'⟩; have G3 := Lib.hid hb'; clear hb')
            | (go_at_call 24; (with_reducible refine (K4.out _ _ (Nb.out.bl (G1.out.trans (G2.out.trans G3.out)))).mono ?_); rintro e w4 ⟨rfl, hb'⟩; have G4 := Lib.hid hb'; clear hb')
            | (go_at_call 15; (with_reducible refine (K2.out _ _ _ (Na.out.bl ((G1.out.trans (G2.out.trans (G3.out.trans G4.out))).alloc _)) (nu_lit rfl Z1.out Z4.out)).mono ?_); rintro e w5 ⟨v1, rfl, hr, hb'⟩; have R1 := Lib.hid (hr); have G5 := Lib.hid (((Bl.refl _).alloc _).trans hb'); clear hr hb')
            | (go_at_call 23; (with_reducible refine (D1.out _ _ (Na.out.bl (G1.out.trans (G2.out.trans (G3.out.trans (G4.out.trans G5.out)))))).mono ?_); rintro e w6 ⟨d1, rfl, hr, hb'⟩; have G_1 := Lib.hid (hr); have G6 := Lib.hid hb'; clear hr hb')
            | (go_at_call 21; (with_reducible refine (D2.out _ _ G_1.out).mono ?_); rintro e w7 ⟨v2, rfl, hr, hb'⟩; have R2 := Lib.hid (hr); have G7 := Lib.hid hb'; clear hr hb')
            | (go_at_call 13; (with_reducible refine (E1.out _ _ _ (R1.out.bl (G6.out.trans G7.out)) R2.out).mono ?_); rintro e w8 ⟨rfl, hb'⟩; have G8 := Lib.hid hb'; clear hb')
            | (go_at_call 24; (with_reducible refine (K3.out _ _ (Na.out.bl (G1.out.trans (G2.out.trans (G3.out.trans (G4.out.trans (G5.out.trans (G6.out.trans (G7.out.trans G8.out))))))))).mono ?_); rintro e w9 ⟨rfl, hb'⟩; have G9 := Lib.hid hb'; clear hb')
            | (go_at_call 24; (with_reducible refine (K4.out _ _ (Nb.out.bl (G1.out.trans (G2.out.trans (G3.out.trans (G4.out.trans (G5.out.trans (G6.out.trans (G7.out.trans (G8.out.trans G9.out)))))))))).mono ?_); rintro e w10 ⟨rfl, hb'⟩; have G10 := Lib.hid hb'; clear hb')
            | (go_at_call 24; (with_reducible refine (K5.out _ _ (Np.out.bl (G3.out.trans (G4.out.trans (G5.out.trans (G6.out.trans (G7.out.trans (G8.out.trans (G9.out.trans G10.out))))))))).mono ?_); rintro e w11 ⟨rfl, hb'⟩; have G11 := Lib.hid hb'; clear hb')
            | (go_at_call 24; (with_reducible refine (K5.out _ _ (Np.out.bl (G3.out.trans (G4.out.trans (G5.out.trans (G6.out.trans (G7.out.trans (G8.out.trans (G9.out.trans (G10.out.trans G11.out)))))))))).mono ?_); rintro e w12 ⟨rfl, hb'⟩; have G12 := Lib.hid hb'; clear hb'; have hcell := src_last (HXP.out.bl (G3.out.trans (G4.out.trans (G5.out.trans (G6.out.trans (G7.out.trans (G8.out.trans (G9.out.trans (G10.out.trans (G11.out.trans G12.out)))))))))) HL.out HK.out; obtain ⟨ad, rfl, hcell⟩ := hcell)
            | (go_at_call 25; (with_reducible refine (KL.out _).mono ?_); rintro e w' ⟨rfl, rfl⟩))
          go_ret
          exact ⟨rfl, (G1.out.trans (G2.out.trans (G3.out.trans (G4.out.trans (G5.out.trans (G6.out.trans (G7.out.trans (G8.out.trans (G9.out.trans (G10.out.trans (G11.out.trans G12.out)))))))))))⟩
  · skip
    have FE := Lib.hid (fun W h1 h2 => few5_no va vb la lb hf (rw_len ra) (rw_len rb) W h1 h2)
    have Qa := Lib.hid ra
    have Qb := Lib.hid rb
    clear ha hb ra rb hf ht
    go_enter Try.func6, Try.ntmps6
    go_wp2_with (first
      | (go_at_call 10; (with_reducible refine (shown5_any _).mono ?_); rintro e w1 ⟨rfl, hb'⟩; have G1 := Lib.hid hb'; clear hb')
      | (go_at_call 11; (with_reducible refine (FE.out _ (Qa.out.bl G1.out) (Qb.out.bl G1.out)).mono ?_); rintro e w' ⟨rfl, rfl⟩))
    go_ret
    exact ⟨rfl, G1.out⟩
end Go.Proofs.Yteoeaogfeblokaa
