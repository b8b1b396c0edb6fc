/-
  The walk of QuotWords. · The walk of QuotSteps. · For a statement whose arguments are of bounded bulk: a slice of words has fewer words than its bulk.
-/
import Derived.Test.YtfmkbeffhdphfaaPk31
import Derived.Test.YtfmkbeffhdphfaaPk34
import Derived.Test.YtfmkbeffhdphfaaPk40
import Derived.Test.YtfmkbeffhdphfaaPk2
import Derived.Test.YtfmkbeffhdphfaaRows
namespace Go.Proofs.Ytfmkbeffhdphfaa
open Go.RowKit
set_option linter.unusedVariables false
set_option linter.unusedSimpArgs false

set_option maxRecDepth 100000 in
set_option maxHeartbeats 8000000 in
theorem quotWords_walk (va : Value) (la : List Nat) (x : Nat) (ha : All 18446744073709551616 la) (hx : x < 18446744073709551616) (w : World) (ra : Rw .u64 w va la) :
    Calls Try.prog 8 #[va, .int .u64 (x : Int)] w fun e w' => e = .returned (.bool true) ∧ Bl w w' := by
  by_cases hf : la.length ≤ 30
  · skip
    have FE := Lib.hid (fun W h1 h2 => few6_yes va (.slice none 0 0) la [] hf (by simp) W h1 h2)
    have Na : Hid (Nu w va (val 18446744073709551616 la)) := Nu.mk ra ha (by omega)
    have sA := Lib.hid (Sz.of_val ha (k := 30) (by omega))
    have Qa := Lib.hid ra
    obtain ⟨A, eA⟩ : ∃ x, val 18446744073709551616 la = x := ⟨_, rfl⟩
    rw [eA] at Na sA
    have HX := Lib.hid hx
    by_cases hx0 : x = 0
    · subst hx0
      rw [show ((0 : Nat) : Int) = 0 from rfl]
      have K1 : Hid (∀ W v, Nu W v A → Calls Try.prog 14 #[v, .int .u64 0] W (RwEndW W [] 0 2)) := fun W v h0 => by
        have c := pByWord0 W v A h0
        exact c
      have K2 : Hid (∀ W v u, Nu W v A → Nu W u 0 → Calls Try.prog 12 #[v, u] W (RwEnd3 W [] [] 2)) := fun W v u h0 h1 => by
        have c := pDiv0 W v u A h0 h1
        exact c
      have D1 : Hid (∀ W v, Nu W v 0 → Calls Try.prog 17 #[v] W (RwEnd .i64 W (dig 65536 0))) := fun W v h0 => by
        have c := kDg h0
        exact c
      have D2 : Hid (∀ W v, De W v 0 → Calls Try.prog 16 #[v] W (RwEnd .u64 W [])) := fun W v h0 => by
        have c := kWords 0 (show Sd 0 from Nat.pow_pos (by decide)) W v h0
        rw [dig_zero] at c
        exact c
      have E1 := Lib.hid kSame0
      have E2 := E1
      have XL : Hid ((0 : Int) = ((0 : Nat) : Int)) := rfl
      have XB : Hid (0 < 18446744073709551616) := by show 0 < 18446744073709551616; decide
      clear ha ra eA hf hx
      go_enter Try.func8, Try.ntmps8
      go_wp2_with (first
        | (go_at_call 10; (with_reducible refine (shown6_any _).mono ?_); rintro e w1 ⟨rfl, hb'⟩; have G1 := Lib.hid hb'; clear hb')
        | (go_at_call 11; (with_reducible refine (FE.out _ (Qa.out.bl G1.out) (Rw.nil _ _)).mono ?_); rintro e w' ⟨rfl, rfl⟩)
        | (go_at_call 14; (with_reducible refine (K1.out _ _ (Na.out.bl G1.out)).mono ?_); rintro e w2 ⟨q, rfl, hr, hb'⟩; have Rq := Lib.hid (hr); have G2 := Lib.hid hb'; clear hr hb')
        | (go_at_call 12; (with_reducible refine (K2.out _ _ _ (Na.out.bl ((G1.out.trans G2.out).alloc _)) (nu_lit (by simp) XL.out XB.out)).mono ?_); rintro e w3 ⟨p, s, rfl, hr, hs, hb'⟩; have Rp := Lib.hid (hr); have Rs := Lib.hid (hs); have G3 := Lib.hid (((Bl.refl _).alloc _).trans hb'); clear hr hs hb')
        | (go_at_call 17; (with_reducible refine (D1.out _ _ (nu_lit (by simp) XL.out XB.out)).mono ?_); rintro e w4 ⟨d1, rfl, hr, hb'⟩; have G_1 := Lib.hid (hr); have G4 := Lib.hid (((Bl.refl _).alloc _).trans hb'); clear hr hb')
        | (go_at_call 16; (with_reducible refine (D2.out _ _ G_1.out).mono ?_); rintro e w5 ⟨d2, rfl, hr, hb'⟩; have G_2 := Lib.hid (hr); have G5 := Lib.hid hb'; clear hr hb')
        | (go_at_call 15; (with_reducible refine (E1.out _ _ _ (Rq.out.bl (G3.out.trans (G4.out.trans G5.out))) (Rp.out.bl (G4.out.trans G5.out))).mono ?_); rintro e w6 ⟨rfl, hb'⟩; have G6 := Lib.hid hb'; clear hb'))
      go_ret
      exact ⟨rfl, (G1.out.trans (G2.out.trans (G3.out.trans (G4.out.trans (G5.out.trans G6.out)))))⟩
    · skip
      have hpx : 0 < x := Nat.pos_of_ne_zero hx0
      have sx : Hid (Sz 1 x) := by show Sz 1 x; unfold Sz; rw [Nat.pow_one]; exact hx
      have x1 : ((x : Int) != 0) = true := by rw [bne_iff_ne]; omega
      obtain ⟨T, eT⟩ : ∃ yy, A / x = yy := ⟨_, rfl⟩
      have sT : Hid (Sz 30 T) := (by rw [← eT]; exact sA.out.le (Nat.div_le_self _ _))
      obtain ⟨U, eU⟩ : ∃ yy, A % x = yy := ⟨_, rfl⟩
      have sU : Hid (Sz 30 U) := (by rw [← eU]; exact sA.out.le (Nat.mod_le _ _))
      have hUx : U < 18446744073709551616 := by rw [← eU]; exact Nat.lt_trans (Nat.mod_lt _ hpx) hx
      have UB := Lib.hid hUx
      have K1 : Hid (∀ W v, Nu W v A → Calls Try.prog 14 #[v, .int .u64 (x : Int)] W (RwEndW W (dig 18446744073709551616 T) U 0)) := fun W v h0 => by
        have c := pByWord W v A x h0 hpx hx
        rw [eT, eU] at c
        exact c
      have K2 : Hid (∀ W v u, Nu W v A → Nu W u x → Calls Try.prog 12 #[v, u] W (RwEnd3 W (dig 18446744073709551616 T) (dig 18446744073709551616 U) 0)) := fun W v u h0 h1 => by
        have c := pDiv W v u A x 30 1 h0 h1 hpx sA.out sx.out (by decide) (by decide)
        rw [eT, eU] at c
        exact c
      have E1 := Lib.hid (kSame T (sT.out.sd (by decide)))
      have E2 := Lib.hid (kSame U (sU.out.sd (by decide)))
      have D1 : Hid (∀ W v, Nu W v U → Calls Try.prog 17 #[v] W (RwEnd .i64 W (dig 65536 U))) := fun W v h0 => by
        have c := kDg h0
        exact c
      have D2 : Hid (∀ W v, De W v U → Calls Try.prog 16 #[v] W (RwEnd .u64 W (dig 18446744073709551616 U))) := fun W v h0 => by
        have c := kWords U (sU.out.sd (by decide)) W v h0
        exact c
      clear ha ra eA hf hx eT eU hpx hx0 hUx
      go_enter Try.func8, Try.ntmps8
      go_wp2_with (first
        | (go_at_call 10; (with_reducible refine (shown6_any _).mono ?_); rintro e w1 ⟨rfl, hb'⟩; have G1 := Lib.hid hb'; clear hb')
        | (go_at_call 11; (with_reducible refine (FE.out _ (Qa.out.bl G1.out) (Rw.nil _ _)).mono ?_); rintro e w' ⟨rfl, rfl⟩)
        | (go_at_call 14; (with_reducible refine (K1.out _ _ (Na.out.bl G1.out)).mono ?_); rintro e w2 ⟨q, rfl, hr, hb'⟩; have Rq := Lib.hid (hr); have G2 := Lib.hid hb'; clear hr hb')
        | (go_at_call 12; (with_reducible refine (K2.out _ _ _ (Na.out.bl ((G1.out.trans G2.out).alloc _)) (nu_lit (by simp) rfl HX.out)).mono ?_); rintro e w3 ⟨p, s, rfl, hr, hs, hb'⟩; have Rp := Lib.hid (hr); have Rs := Lib.hid (hs); have G3 := Lib.hid (((Bl.refl _).alloc _).trans hb'); clear hr hs hb')
        | (go_at_call 17; (with_reducible refine (D1.out _ _ (nu_lit (by simp) rfl UB.out)).mono ?_); rintro e w4 ⟨d1, rfl, hr, hb'⟩; have G_1 := Lib.hid (hr); have G4 := Lib.hid (((Bl.refl _).alloc _).trans hb'); clear hr hb')
        | (go_at_call 16; (with_reducible refine (D2.out _ _ G_1.out).mono ?_); rintro e w5 ⟨d2, rfl, hr, hb'⟩; have G_2 := Lib.hid (hr); have G5 := Lib.hid hb'; clear hr hb')
        | (go_at_call 15; (with_reducible refine (E1.out _ _ _ (Rq.out.bl (G3.out.trans (G4.out.trans G5.out))) (Rp.out.bl (G4.out.trans G5.out))).mono ?_); rintro e w6 ⟨rfl, hb'⟩; have G6 := Lib.hid hb'; clear hb')
        | (go_at_call 15; (with_reducible refine (E2.out _ _ _ (G_2.out.bl G6.out) (Rs.out.bl (G4.out.trans (G5.out.trans G6.out)))).mono ?_); rintro e w7 ⟨rfl, hb'⟩; have G7 := Lib.hid hb'; clear hb'))
      go_ret
      exact ⟨rfl, (G1.out.trans (G2.out.trans (G3.out.trans (G4.out.trans (G5.out.trans (G6.out.trans G7.out))))))⟩
  · skip
    have FE := Lib.hid (fun W h1 h2 => few6_no va (.slice none 0 0) la [] (fun h => hf h.1) (rw_len ra) (by simp) W h1 h2)
    have Qa := Lib.hid ra
    clear ha ra hf hx
    go_enter Try.func8, Try.ntmps8
    go_wp2_with (first
      | (go_at_call 10; (with_reducible refine (shown6_any _).mono ?_); rintro e w1 ⟨rfl, hb'⟩; have G1 := Lib.hid hb'; clear hb')
      | (go_at_call 11; (with_reducible refine (FE.out _ (Qa.out.bl G1.out) (Rw.nil _ _)).mono ?_); rintro e w' ⟨rfl, rfl⟩))
    go_ret
    exact ⟨rfl, G1.out⟩
end Go.Proofs.Ytfmkbeffhdphfaa
namespace Go.Proofs.Ytfmkbeffhdphfaa
open Go.RowKit
set_option linter.unusedVariables false
set_option linter.unusedSimpArgs false

theorem szpow {k A : Nat} (h : Sz k A) (m : Nat) : Sz (k * m + 1) (A ^ m) := by
  unfold Sz at *
  rw [Nat.pow_succ, Nat.pow_mul]
  have h1 : A ^ m ≤ (18446744073709551616 ^ k) ^ m := Nat.pow_le_pow_left (Nat.le_of_lt h) m
  have h2 : 0 < (18446744073709551616 ^ k) ^ m := Nat.pow_pos (Nat.pow_pos (by decide))
  omega

set_option maxRecDepth 100000 in
set_option maxHeartbeats 8000000 in
theorem quotSteps_walk (va : Value) (la : List Nat) (z : Int) (ha : All 18446744073709551616 la) (hz : -9223372036854775808 ≤ z ∧ z ≤ 9223372036854775807) (w : World) (ra : Rw .u64 w va la) :
    Calls Try.prog 9 #[va, .int .i64 z] w fun e w' => e = .returned (.bool true) ∧ Bl w w' := by
  obtain ⟨na, hna⟩ : ∃ n, la.length = n := ⟨_, rfl⟩
  have hla := rw_len ra
  obtain ⟨Za, ka, eva⟩ := rw_shape ra hna
  subst eva
  rw [hna] at hla
  have iba : (na : Int) ≤ 9223372036854775807 := by omega
  by_cases hfa : 8 < na
  · skip
    have d1 : decide ((8 : Int) < (na : Int)) = true := decide_eq_true (by omega)
    have d2 : decide (8 < na) = true := decide_eq_true hfa
    clear ha ra hna hla hz hfa
    go_enter Try.func9, Try.ntmps9
    go_wp2_with (first
      | (go_at_call 10; (with_reducible refine (shown6_any _).mono ?_); rintro e w1 ⟨rfl, hb'⟩; have G1 := Lib.hid hb'; clear hb'))
    go_ret
    exact ⟨rfl, G1.out⟩
  have d1 : decide ((8 : Int) < (na : Int)) = false := decide_eq_false (by omega)
  have d2 : decide (8 < na) = false := decide_eq_false hfa
  by_cases hz1 : z < 1
  · skip
    have d3 : decide (z < 1) = true := decide_eq_true hz1
    clear ha ra hna hla hz hfa hz1
    go_enter Try.func9, Try.ntmps9
    go_wp2_with (first
      | (go_at_call 10; (with_reducible refine (shown6_any _).mono ?_); rintro e w1 ⟨rfl, hb'⟩; have G1 := Lib.hid hb'; clear hb'))
    go_ret
    exact ⟨rfl, G1.out⟩
  by_cases hz2 : 12 < z
  · skip
    have d3 : decide (z < 1) = false := decide_eq_false hz1
    have d4 : decide (12 < z) = true := decide_eq_true hz2
    clear ha ra hna hla hz hfa hz1 hz2
    go_enter Try.func9, Try.ntmps9
    go_wp2_with (first
      | (go_at_call 10; (with_reducible refine (shown6_any _).mono ?_); rintro e w1 ⟨rfl, hb'⟩; have G1 := Lib.hid hb'; clear hb'))
    go_ret
    exact ⟨rfl, G1.out⟩
  obtain ⟨n, rfl⟩ : ∃ n : Nat, z = (n : Int) := ⟨z.toNat, by omega⟩
  obtain ⟨m, hm⟩ : ∃ m, n = m + 1 := ⟨n - 1, by omega⟩
  have d3 : decide ((n : Int) < 1) = false := decide_eq_false hz1
  have d4 : decide ((12 : Int) < (n : Int)) = false := decide_eq_false hz2
  have d5 : decide (12 < n) = false := decide_eq_false (by omega)
  have d6 : decide (n < 1) = false := decide_eq_false (by omega)
  have d7 : ¬ n = 0 := by omega
  have r1 : (n : Int) - 1 = (m : Int) := by omega
  have ib : (n : Int) ≤ 12 := by omega
  have Na : Hid (Nu w (.slice Za na ka) (val 18446744073709551616 la)) := Nu.mk ra ha (by omega)
  have sA := Lib.hid (Sz.of_val ha (k := 8) (by omega))
  obtain ⟨A, eA⟩ : ∃ x, val 18446744073709551616 la = x := ⟨_, rfl⟩
  rw [eA] at Na sA
  have hbA : blen A ≤ 512 := blen_sz (k := 8) sA.out
  have hbln : blen A * n ≤ 262144 := Nat.le_trans (Nat.mul_le_mul hbA (show n ≤ 12 by omega)) (by decide)
  have hblm : blen A * m ≤ 262144 := Nat.le_trans (Nat.mul_le_mul_left _ (show m ≤ n by omega)) hbln
  obtain ⟨P, eP⟩ : ∃ yy, A ^ n = yy := ⟨_, rfl⟩
  have sP : Hid (Sz 97 P) := by
    have := szpow sA.out n
    rw [eP] at this
    exact this.mono (by omega)
  obtain ⟨Q, eQ⟩ : ∃ yy, A ^ m = yy := ⟨_, rfl⟩
  have sQ : Hid (Sz 97 Q) := by
    have := szpow sA.out m
    rw [eQ] at this
    exact this.mono (by omega)
  have eP2 : Q * A = P := by rw [← eP, ← eQ, hm, Nat.pow_succ]
  have K1 : Hid (∀ W v, Nu W v A → Calls Try.prog 23 #[v, .int .i64 (n : Int)] W (RwErr .u64 W (dig 18446744073709551616 P) 0)) := fun W v h0 => by
    have c := pPow W v A n h0 (by omega) hbln
    rw [eP] at c
    exact c
  have K2 : Hid (∀ W v, Nu W v A → Calls Try.prog 23 #[v, .int .i64 (m : Int)] W (RwErr .u64 W (dig 18446744073709551616 Q) 0)) := fun W v h0 => by
    have c := pPow W v A m h0 (by omega) hblm
    rw [eQ] at c
    exact c
  have K3 : Hid (∀ W v u, Nu W v Q → Nu W u A → Calls Try.prog 26 #[v, u] W (RwEnd .u64 W (dig 18446744073709551616 P))) := fun W v u h0 h1 => by
    have c := rtimes_any W v u Q A 97 8 h0 h1 sQ.out sA.out (by decide)
    rw [eP2] at c
    exact c
  have E1 := Lib.hid (kSame P (sP.out.sd (by decide)))
  clear ha ra hna hla hz hfa hz1 hz2 eA hbA hbln hblm eP eQ eP2 hm
  go_enter Try.func9, Try.ntmps9
  go_wp2_with (first
    | (go_at_call 10; (with_reducible refine (shown6_any _).mono ?_); rintro e w1 ⟨rfl, hb'⟩; have G1 := Lib.hid hb'; clear hb')
    | (go_at_call 23; (with_reducible refine (K1.out _ _ (Na.out.bl G1.out)).mono ?_); rintro e w2 ⟨p, rfl, hr, hb'⟩; have Rp := Lib.hid (hr); have G2 := Lib.hid hb'; clear hr hb')
    | (go_at_call 23; (with_reducible refine (K2.out _ _ (Na.out.bl (G1.out.trans G2.out))).mono ?_); rintro e w3 ⟨q, rfl, hr, hb'⟩; have Nq := Lib.hid (Nu.dig hr sQ.out (by decide)); have G3 := Lib.hid hb'; clear hr hb')
    | (go_at_call 26; (with_reducible refine (K3.out _ _ _ Nq.out (Na.out.bl (G1.out.trans (G2.out.trans G3.out)))).mono ?_); rintro e w4 ⟨t1, rfl, hr, hb'⟩; have Rt := Lib.hid (hr); have G4 := Lib.hid hb'; clear hr hb')
    | (go_at_call 15; (with_reducible refine (E1.out _ _ _ (Rp.out.bl (G3.out.trans G4.out)) Rt.out).mono ?_); rintro e w5 ⟨rfl, hb'⟩; have G5 := Lib.hid hb'; clear hb'))
  go_ret
  exact ⟨rfl, (G1.out.trans (G2.out.trans (G3.out.trans (G4.out.trans G5.out))))⟩
end Go.Proofs.Ytfmkbeffhdphfaa
namespace Go.Proofs.Ytfmkbeffhdphfaa
open Go.ChangeShapes Go.WideShapes Go.ChangeAt Go.RowKit
set_option linter.unusedVariables false

theorem bulk_pos {H : Type} (d : DataW H) : 1 ≤ Rows.uptoBulk d := by
  cases d with
  | lit l => cases l <;> simp [Rows.uptoBulk]
  | slice elems spare => simp [Rows.uptoBulk]
  | _ => simp [Rows.uptoBulk]
theorem bulk_len {H : Type} : ∀ l : List (DataW H), l.length ≤ Rows.uptoBulkAll l
  | [] => by simp [Rows.uptoBulkAll]
  | d :: l => by
    have h1 := bulk_pos d
    have h2 := bulk_len l
    simp only [Rows.uptoBulkAll, List.length_cons]
    omega
theorem open_rowu {H : Type} {enc : TypeId × Value → H} {P : Program} {W : World} {base : Nat} {r : Reach} {b0 : Nat} {t e : TypeId} {v : Value} {d : DataW H} {p : List MemPlace} (ht : P.underlying t = some (.slice e)) (he : P.underlying e = some (.int .u64)) (hc : P.cellsOf e = 1)
    (hval : Value.okWide P W r b0 t v) (h : DataW.Trod enc P W base (fun _ => true) true t v d p) : ∃ l : List Nat, Rw .u64 W v l ∧ All 18446744073709551616 l ∧ l.length + 1 ≤ Rows.uptoBulk d := by
  obtain ⟨a, len, cap, rfl⟩ := okWide_slice ht hval
  obtain ⟨n, hn⟩ := h
  have hn' : DataW.trod enc P W base (fun _ => true) true n t [.slice a len cap] = some (d, p) := by simpa [Value.cells] using hn
  obtain ⟨l, hl, ha⟩ := row_of (n := n) ht he hc hn'
  refine ⟨l, hl, ha, ?_⟩
  obtain ⟨A', c', ev, _⟩ := hl
  injection ev with e1 e2 e3
  rcases open_ints ht he hc hn' with ⟨hcs, hx⟩ | ⟨a', len', cap', zs, hcs, hb, hll, hm, hlen, hx, hcell, hwf⟩
  · injection hcs with hcs _
    injection hcs with _ h2 _
    have := bulk_pos d
    omega
  · injection hcs with hcs _
    injection hcs with _ h2 _
    simp only [if_true] at hlen
    injection hx with hd _
    subst hd
    simp only [Rows.uptoBulk]
    have h3 := bulk_len (lits (H := H) .u64 (zs.take len'))
    have h4 : (lits (H := H) .u64 (zs.take len')).length = len' := by simp [lits]; omega
    omega
end Go.Proofs.Ytfmkbeffhdphfaa
